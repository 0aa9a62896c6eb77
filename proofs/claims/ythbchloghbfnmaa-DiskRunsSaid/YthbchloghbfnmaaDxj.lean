/- The laws of layer 6: pages of loose writes; sizes that stay: contracts, no statement. -/
import Derived.Test.YthbchloghbfnmaaDxi
import Derived.Test.YthbchloghbfnmaaDtw
namespace Go.Proofs.Ythbchloghbfnmaa
open Go.RowKit
set_option linter.unusedVariables false

def szs (rs : List Rg) : List Nat := rs.map (·.size)
theorem szs_set {rs : List Rg} {x : Int} {r q : Rg} (h : regN rs x = some r) (hq : q.size = r.size) : szs (rs.set x.toNat q) = szs rs := by
  obtain ⟨_, _, h3⟩ := regN_some h
  unfold szs
  apply List.ext_getElem?
  intro i
  rw [List.getElem?_map, List.getElem?_map, List.getElem?_set]
  by_cases e : x.toNat = i
  · subst e
    rw [if_pos rfl, h3]
    have := (List.getElem?_eq_some_iff.1 h3).1
    simp [this, hq]
  · rw [if_neg e]
theorem szs_wr (rs : List Rg) (x p : Int) (l : List UInt8) : szs (wrA rs x p l).1 = szs rs := by
  unfold wrA
  split
  · rfl
  · rename_i r hr
    repeat' split
    all_goals first | rfl | exact szs_set hr (by simp [wrR, cntR_size])
theorem szs_sy (rs : List Rg) (x : Int) : szs (syA rs x).1 = szs rs := by
  unfold syA
  split
  · rfl
  · rename_i r hr
    repeat' split
    all_goals first | rfl | exact szs_set hr (by simp [setR, cntR_size])
theorem szs_st (rs : List Rg) (x a : Int) : szs (stA rs x a) = szs rs := by
  unfold stA
  split
  · rfl
  · rename_i r hr
    exact szs_set hr rfl
theorem szs_cr (ks : List (List UInt8)) (rs : List Rg) : szs (crA ks rs) = szs rs := by
  unfold szs crA
  apply List.ext_getElem?
  intro i
  rw [List.getElem?_map, List.getElem?_map, List.getElem?_mapIdx]
  cases rs[i]? <;> rfl
theorem szs_len {rs : List Rg} {ls : List Int} (h : szs rs = ls.map Int.toNat) : rs.length = ls.length := by
  have := congrArg List.length h
  simpa [szs] using this
theorem szs_at {rs : List Rg} {ls : List Int} (h : szs rs = ls.map Int.toNat) {k : Nat} {r : Rg} (hr : rs[k]? = some r) : ∃ x, ls[k]? = some x ∧ r.size = x.toNat := by
  have := congrArg (·[k]?) h
  simp only [szs, List.getElem?_map, hr, Option.map_some] at this
  cases hl : ls[k]? with
  | none => simp [hl] at this
  | some x => simp [hl] at this; exact ⟨x, rfl, this⟩
theorem szs_new (ls : List Int) : szs (ls.map fun x => fresh6 x.toNat) = ls.map Int.toNat := by simp [szs, fresh6]
theorem newB_pos {ls : List Int} (h : newB ls = true) {x : Int} (hx : x ∈ ls) : 1 ≤ x := by
  simp [newB, szB] at h
  exact (h.2 x hx).1
section
variable {w : World} {T : Tg}
set_option maxRecDepth 100000 in
set_option maxHeartbeats 2000000 in
theorem pages_any (A : Option Addr) (n c : Nat) (l : List Wr) (h : SlT w T A n c (looseV l)) (hnl : n = l.length) (hn : n ≤ 1000) : Calls Try.prog 26 #[.slice A n c] w (IntsOut (l.map (·.1)) w) := by
  obtain ⟨j0, hj, jz0, jz1, jz2⟩ := info_parts int_info
  have HL := Lib.hid h
  have HN := Lib.hid hnl
  clear h hnl
  go_enter Try.func26, Try.ntmps26
  go_wp2
  go_loopw [3, 4] (fun v i wr => ∃ k : Nat, k ≤ n ∧ i = .int .i64 (k : Int) ∧ wr.ownsRow w.heap.size 3 1 v k (((l.take k).map (·.1)).map (Value.int .i64)) ∧ Below w.heap.size w wr) (fun _ i _ => n - (intOf i).toNat)
  case atStart => exact ⟨0, Nat.zero_le _, rfl, World.ownsRow_nil _ _ _ _, Below.refl _ _⟩
  case round =>
    obtain ⟨k, hk, rfl, ho, hb⟩ := hrel
    have HO := Lib.hid ho
    have HB := Lib.hid hb
    clear ho hb
    by_cases hlt : k < n
    · obtain ⟨y, hy⟩ : ∃ y, l[k]? = some y := ⟨_, List.getElem?_eq_getElem (by rw [← HN.out]; exact hlt)⟩
      obtain ⟨lb, lo, rfl, d0, _⟩ := (HL.out.below HB.out).wr hy
      have NEXT : Hid (((l.take (k + 1)).map (·.1)).map (Value.int .i64) = ((l.take k).map (·.1)).map (Value.int .i64) ++ [.int .i64 y.1]) := Lib.hid (by
        rw [List.take_add_one, hy]
        simp)
      have i0 : (0 : Int) ≤ (k : Int) := by omega
      have i1 : (k : Int) < (n : Int) := by omega
      clear hy
      go_wp2_with (at_builtin; refine wpList_append_own _ rfl _ _ 22 rfl w.heap.size 3 j0 (.int .i64 0) 1 8 Try.underlying22 hj jz0 jz1 jz2 rfl (by decide) _ k _ rfl (HO.out.alloc _) ⟨wr.heap.size, 0, none⟩ 1 1 [.int .i64 y.1] rfl rfl ?_ ?_ ?_ ?_ ?_ ?_; (exact cell_one_new _ _ _); (intro u hu; simp at hu; subst hu; rfl); (unfold maxLen; omega); (omega); (have hq := HB.out.size; simp; omega); intro v4 w4 h7 h8 h9; have O4 := Lib.hid h7; have B4 := Lib.hid (below_ownR (HB.out.alloc HB.out.size (.cells #[.int .i64 y.1] 3)) h8 (HO.out.alloc (.cells #[.int .i64 y.1] 3)) (by have := HB.out.size; simp; omega)); clear h7 h8 h9)
      go_roundw
      case rel => exact ⟨k + 1, by omega, by go_num, by rw [NEXT.out]; exact O4.out, B4.out⟩
      case measure => simp [intOf]; omega
    · obtain rfl : k = n := by omega
      obtain ⟨w3, hw3⟩ : ∃ w3 : World, w3 = wr := ⟨_, rfl⟩
      subst hw3
      go_wp2
      go_ret
      refine ⟨_, rfl, ?_, HB.out⟩
      have := HO.out
      rw [List.take_of_length_le (Nat.le_of_eq HN.out.symm)] at this
      rw [List.length_map, ← HN.out]
      exact this
end

end Go.Proofs.Ythbchloghbfnmaa
