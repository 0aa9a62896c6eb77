/- The laws of layer 6: pages, and whether steps are small: contracts, no statement. -/
import Derived.Test.YthbchloghbfnmaaDnw
namespace Go.Proofs.Ythbchloghbfnmaa
open Go.RowKit
set_option linter.unusedVariables false

/-- A step. -/
structure St where
  kind : Int
  region : Int
  page : Int
  fill : UInt8
  short : Bool
  keep : List (List UInt8)
def pgLen (s : St) : Nat := if s.short then 127 else 128
def pgB (s : St) : List UInt8 := List.replicate (pgLen s) s.fill
theorem pgB_len (s : St) : (pgB s).length = pgLen s := by simp [pgB]
/-- A step by value; kv: what its last field is. -/
def stV (s : St) (kv : Value) : Value := .agg #[.int .i64 s.kind, .int .i64 s.region, .int .i64 s.page, byteV s.fill, .bool s.short, kv]
def PgEnd (l : List UInt8) (w : World) (e : Ending) (w' : World) : Prop := ∃ g, e = .returned (.slice (some ⟨g, 0, none⟩) l.length l.length) ∧ w.heap.size ≤ g ∧ Has w' g 5 (l.map byteV).toArray ∧ Below w.heap.size w w'
theorem make_bytes6 (n : Nat) (hn : n ≤ 1000000) (w : World) : (Instr.makeSlice 37 (.int .i64 n) (.int .i64 n)).run Try.prog w = .ok (.slice (some ⟨w.heap.size, 0, none⟩) n n) (w.alloc (.cells (madeCells #[.int .u8 0] n) 5)) := by
  obtain ⟨i0, hi, hz0, hz1, hz2⟩ := info_parts u8info
  have := run_make (P := Try.prog) (w := w) 37 5 i0 (.int .u8 0) Try.underlying37 hi hz0 .i64 .i64 n n (by omega) (by omega) (by rw [hz2]; omega) (by omega)
  simp only [Int.toNat_natCast, hz1, Nat.mul_one] at this
  exact this
def half (n k : Nat) (f : UInt8) : List UInt8 := List.replicate k f ++ List.replicate (n - k) 0
theorem half_zero (n : Nat) (f : UInt8) : ((half n 0 f).map byteV).toArray = madeCells #[.int .u8 0] n := by
  apply Array.ext'
  rw [toList_madeCells_one]
  simp [half, byteV]
theorem half_step {n k : Nat} (f : UInt8) (hk : k < n) : ((half n k f).map byteV).toArray.setIfInBounds k (byteV f) = ((half n (k + 1) f).map byteV).toArray := by
  apply Array.ext_getElem?
  intro i
  rw [Array.getElem?_setIfInBounds]
  simp only [half, List.map_append, List.map_replicate, List.getElem?_toArray, List.size_toArray, List.length_append, List.length_replicate]
  by_cases e : k = i
  · subst e
    rw [if_pos rfl, if_pos (by omega), List.getElem?_append_left (by simp)]
    simp
  · rw [if_neg e]
    by_cases h : i < k
    · rw [List.getElem?_append_left (by simpa using h), List.getElem?_append_left (by simp; omega)]
      simp only [List.getElem?_replicate]
      rw [if_pos h, if_pos (by omega)]
    · rw [List.getElem?_append_right (by simp; omega), List.getElem?_append_right (by simp; omega)]
      simp only [List.getElem?_replicate, List.length_replicate]
      by_cases h2 : i < n
      · rw [if_pos (by omega), if_pos (by omega)]
      · rw [if_neg (by omega), if_neg (by omega)]
theorem half_all (n : Nat) (f : UInt8) : half n n f = List.replicate n f := by simp [half]
set_option maxRecDepth 100000 in
set_option maxHeartbeats 1000000 in
theorem page_any (s : St) (kv : Value) (hkv : kv.oneCell' = true) (w : World) : Calls Try.prog 13 #[stV s kv] w (PgEnd (pgB s) w) := by
  obtain ⟨n, hn⟩ : ∃ n, pgLen s = n := ⟨_, rfl⟩
  have hnb : n ≤ 128 := by
    rw [← hn]
    unfold pgLen
    split <;> omega
  have HP : Hid (pgB s = List.replicate n s.fill) := Lib.hid (by rw [← hn]; rfl)
  obtain ⟨W1, hW1⟩ : ∃ W1, w.alloc (.cells #[.int .i64 s.kind, .int .i64 s.region, .int .i64 s.page, byteV s.fill, .bool s.short, kv] 35) = W1 := ⟨_, rfl⟩
  have b1 : Has W1 w.heap.size 35 #[.int .i64 s.kind, .int .i64 s.region, .int .i64 s.page, byteV s.fill, .bool s.short, kv] := hW1 ▸ Has.made w 35 _
  have B1 : Below w.heap.size w W1 := hW1 ▸ (Below.refl _ w).alloc (Nat.le_refl _) _
  have hs1 : W1.heap.size = w.heap.size + 1 := by rw [← hW1]; simp
  have HS1 := Lib.hid hs1
  have hmk := make_bytes6 n (by omega) W1
  obtain ⟨f, hf⟩ : ∃ f, s.fill = f := ⟨_, rfl⟩
  rw [hf] at HP b1 hW1
  have HB1 := Lib.hid b1
  have HBe := Lib.hid B1
  have c4 := b1.cell 4
  simp only [List.getElem?_toArray, List.getElem?_cons_succ, List.getElem?_cons_zero] at c4
  have HPg : Hid ((pgB s).length = n) := Lib.hid (by rw [pgB_len, hn])
  unfold stV
  rw [hf]
  unfold pgLen at hn
  clear hf b1 B1 hs1
  obtain ⟨sh, hsh⟩ : ∃ sh, s.short = sh := ⟨_, rfl⟩
  rw [hsh] at hn c4 hW1 HB1 ⊢
  obtain ⟨W2, hW2⟩ : ∃ W2, W1.alloc (.cells (madeCells #[.int .u8 0] n) 5) = W2 := ⟨_, rfl⟩
  rw [hW2] at hmk
  have B12 : Below W1.heap.size W1 W2 := hW2 ▸ (Below.refl _ W1).alloc (Nat.le_refl _) _
  have H2 : Hid (Has W2 W1.heap.size 5 ((half n 0 f).map byteV).toArray) := Lib.hid (by rw [half_zero]; exact hW2 ▸ Has.made W1 5 _)
  have BX2 := Lib.hid (HB1.out.below B12 HB1.out.lt)
  have BE2 := Lib.hid (below_step HBe.out B12)
  have LT := Lib.hid HB1.out.lt
  clear B12 hW2
  cases sh
  · obtain rfl : n = 128 := by simpa using hn.symm
    have hmk : (Instr.makeSlice 37 (.int .i64 128) (.int .i64 128)).run Try.prog W1 = .ok (.slice (some ⟨W1.heap.size, 0, none⟩) 128 128) W2 := hmk
    clear hn hnb
    go_enter Try.func13, Try.ntmps13
    go_wp2
    go_loopw [5] (fun i wr => ∃ k : Nat, k ≤ 128 ∧ i = .int .i64 (k : Int) ∧ Has wr W1.heap.size 5 ((half 128 k f).map byteV).toArray ∧ Has wr w.heap.size 35 #[.int .i64 s.kind, .int .i64 s.region, .int .i64 s.page, byteV f, .bool false, kv] ∧ Below w.heap.size w wr) (fun i _ => 128 - (intOf i).toNat)
    case atStart => exact ⟨0, Nat.zero_le _, rfl, H2.out, BX2.out, BE2.out⟩
    case round =>
      obtain ⟨k, hk, rfl, h3, h4, h5⟩ := hrel
      have H3 := Lib.hid h3
      have H4 := Lib.hid h4
      have H5 := Lib.hid h5
      have d3 := h4.cell 3
      simp only [List.getElem?_toArray, List.getElem?_cons_succ, List.getElem?_cons_zero] at d3
      by_cases hlt : k < 128
      · have i0 : (0 : Int) ≤ (k : Int) := by omega
        have i1 : (k : Int) < 128 := by omega
        have ck : ∃ u, wr.cell? ⟨W1.heap.size, k, none⟩ = some u := by
          rw [h3.cell]
          exact ⟨_, Array.getElem?_eq_getElem (by simp [half]; omega)⟩
        obtain ⟨u, ck⟩ := ck
        have fk := h3.free k
        have S3 := Lib.hid (h3.store k (byteV f))
        rw [half_step f hlt] at S3
        have hne : w.heap.size ≠ W1.heap.size := by have := HS1.out; omega
        have S4 := Lib.hid (h4.away (p := ⟨W1.heap.size, k, none⟩) hne (byteV f))
        have S5 : Hid (Below w.heap.size w (wr.setCell ⟨W1.heap.size, k, none⟩ (byteV f))) := Lib.hid (h5.setCell (p := ⟨W1.heap.size, k, none⟩) (by show w.heap.size ≤ W1.heap.size; have := HS1.out; omega) (byteV f))
        clear h3 h4 h5
        unfold byteV at d3 S3 S4 S5
        go_wp2
        go_roundw
        case rel => exact ⟨k + 1, by omega, by go_num, S3.out, S4.out, S5.out⟩
        case measure => simp [intOf]; omega
      · obtain rfl : k = 128 := by omega
        obtain ⟨w3, hw3⟩ : ∃ w3 : World, w3 = wr := ⟨_, rfl⟩
        subst hw3
        clear h3 h4 h5 d3
        go_wp2
        go_ret
        refine ⟨W1.heap.size, (congrArg (fun n : Nat => Ending.returned (.slice (some ⟨W1.heap.size, 0, none⟩) n n)) HPg.out).symm, by have := HS1.out; omega, ?_, H5.out⟩
        have := H3.out
        rw [half_all] at this
        rw [HP.out]
        exact this
  · obtain rfl : n = 127 := by simpa using hn.symm
    have hmk : (Instr.makeSlice 37 (.int .i64 127) (.int .i64 127)).run Try.prog W1 = .ok (.slice (some ⟨W1.heap.size, 0, none⟩) 127 127) W2 := hmk
    clear hn hnb
    go_enter Try.func13, Try.ntmps13
    go_wp2
    go_loopw [5] (fun i wr => ∃ k : Nat, k ≤ 127 ∧ i = .int .i64 (k : Int) ∧ Has wr W1.heap.size 5 ((half 127 k f).map byteV).toArray ∧ Has wr w.heap.size 35 #[.int .i64 s.kind, .int .i64 s.region, .int .i64 s.page, byteV f, .bool true, kv] ∧ Below w.heap.size w wr) (fun i _ => 127 - (intOf i).toNat)
    case atStart => exact ⟨0, Nat.zero_le _, rfl, H2.out, BX2.out, BE2.out⟩
    case round =>
      obtain ⟨k, hk, rfl, h3, h4, h5⟩ := hrel
      have H3 := Lib.hid h3
      have H4 := Lib.hid h4
      have H5 := Lib.hid h5
      have d3 := h4.cell 3
      simp only [List.getElem?_toArray, List.getElem?_cons_succ, List.getElem?_cons_zero] at d3
      by_cases hlt : k < 127
      · have i0 : (0 : Int) ≤ (k : Int) := by omega
        have i1 : (k : Int) < 127 := by omega
        have ck : ∃ u, wr.cell? ⟨W1.heap.size, k, none⟩ = some u := by
          rw [h3.cell]
          exact ⟨_, Array.getElem?_eq_getElem (by simp [half]; omega)⟩
        obtain ⟨u, ck⟩ := ck
        have fk := h3.free k
        have S3 := Lib.hid (h3.store k (byteV f))
        rw [half_step f hlt] at S3
        have hne : w.heap.size ≠ W1.heap.size := by have := HS1.out; omega
        have S4 := Lib.hid (h4.away (p := ⟨W1.heap.size, k, none⟩) hne (byteV f))
        have S5 : Hid (Below w.heap.size w (wr.setCell ⟨W1.heap.size, k, none⟩ (byteV f))) := Lib.hid (h5.setCell (p := ⟨W1.heap.size, k, none⟩) (by show w.heap.size ≤ W1.heap.size; have := HS1.out; omega) (byteV f))
        clear h3 h4 h5
        unfold byteV at d3 S3 S4 S5
        go_wp2
        go_roundw
        case rel => exact ⟨k + 1, by omega, by go_num, S3.out, S4.out, S5.out⟩
        case measure => simp [intOf]; omega
      · obtain rfl : k = 127 := by omega
        obtain ⟨w3, hw3⟩ : ∃ w3 : World, w3 = wr := ⟨_, rfl⟩
        subst hw3
        clear h3 h4 h5 d3
        go_wp2
        go_ret
        refine ⟨W1.heap.size, (congrArg (fun n : Nat => Ending.returned (.slice (some ⟨W1.heap.size, 0, none⟩) n n)) HPg.out).symm, by have := HS1.out; omega, ?_, H5.out⟩
        have := H3.out
        rw [half_all] at this
        rw [HP.out]
        exact this

end Go.Proofs.Ythbchloghbfnmaa
