import Derived.Test.YtogcbmhcddcfkaaGreatDoorJCor2
/- Of a claim's texts, joined: Cor3. No statement but in the last. -/
namespace Go.Proofs.YtogcbmhcddcfkaaGreatDoor
open Go.RowKit
set_option linter.unusedVariables false

theorem extract_text (L : List UInt8) (a : Nat) : (⟨L.toArray⟩ : ByteArray).extract a L.length = ⟨(L.drop a).toArray⟩ := by
  apply ByteArray.ext
  rw [ByteArray.data_extract]
  simp only [List.extract_toArray, List.extract_eq_take_drop]
  rw [List.take_of_length_le (by rw [List.length_drop]; omega)]

set_option maxRecDepth 100000 in
set_option maxHeartbeats 1000000 in
theorem r5begins_any (L : List UInt8) (a b k : Nat) (w : World) (hl : L.length ≤ 1000000) (ha : a < L.length) (hk : k = (decL (L.drop a)).2) (hb : a < b) (hbk : b ≤ a + k) :
    Calls Tryz.prog 60 #[.string ⟨L.toArray⟩, .int .i64 a, .int .i64 b] w fun e w' => e = .returned (.bool (decide (b = a + k ∧ a + k < L.length))) ∧ Below w.heap.size w w' := by
  have hsz : (⟨L.toArray⟩ : ByteArray).size = L.length := size_list L
  obtain ⟨M, hM⟩ : ∃ M, M = L.drop a := ⟨_, rfl⟩
  have hMl : M.length = L.length - a := by rw [hM, List.length_drop]
  have HX : Hid ((⟨L.toArray⟩ : ByteArray).extract a L.length = ⟨M.toArray⟩) := Lib.hid (by rw [hM]; exact extract_text L a)
  rw [← hM] at hk
  have HK := Lib.hid hk
  have HML := Lib.hid hMl
  clear hM hk hMl
  obtain ⟨R, hR⟩ : ∃ R, R = decide (b = a + k ∧ a + k < L.length) := ⟨_, rfl⟩
  rw [← hR]
  have HR := Lib.hid hR
  clear hR
  go_enter Tryz.func60, Tryz.ntmps60
  go_wp2
  rw [HX.out]
  have HSZ := Lib.hid hsz
  clear hsz
  go_loopw [7] (fun v wr => ∃ pos n : Nat, pos ≤ M.length ∧ wr.heap[w.heap.size]? = some (.stringIter ⟨M.toArray⟩ pos) ∧ Below w.heap.size w wr ∧ v = .int .i64 n ∧ n ≤ pos ∧ ((n = 0 ∧ pos = 0) ∨ (0 < n ∧ k ≤ pos ∧ (pos = k ∨ R = false)))) (fun _ wr => M.length - wr.iterPos w.heap.size)
  case atStart =>
    refine ⟨0, 0, Nat.zero_le _, ?_, (Below.refl _ w).alloc (Nat.le_refl _) _, rfl, Nat.le_refl _, .inl ⟨rfl, rfl⟩⟩
    have := World.iter_heap w ⟨M.toArray⟩ 0
    simpa using this
  case round =>
    obtain ⟨pos, n, hp, hit, hB, rfl, hn, hs⟩ := hrel
    have HB := Lib.hid hB
    have HS := Lib.hid hs
    clear hB hs
    by_cases hlt : pos < M.length
    · obtain ⟨hc, hw1, hw2, hr⟩ := drop_sign hlt
      have hnx := fun ty => next_sign (P := Tryz.prog) hit hlt ty
      have HI := Lib.hid (fun p => Lib.iterAt_heap wr w.heap.size ⟨M.toArray⟩ pos p hit)
      have HBi := Lib.hid (fun p => Lib.below_iterAt HB.out (k := w.heap.size) (Nat.le_refl _) ⟨M.toArray⟩ p)
      have HM := Lib.hid (iter_pos hit)
      clear hc
      have HW : Hid (pos = 0 → k = (decL (M.drop pos)).2) := Lib.hid (fun e => by rw [HK.out, e, List.drop_zero])
      generalize (decL (M.drop pos)).1 = r at hnx hr
      generalize (decL (M.drop pos)).2 = kk at hnx hw1 hw2 HW
      have hml := HML.out
      rcases HS.out with ⟨e1, e2⟩ | ⟨e1, e2, e3⟩
      · have hkk := HW.out e2
        subst e1
        have hpk : pos + kk = k := by omega
        clear hkk
        go_wp2
        go_roundw
        case rel => exact ⟨kk, 1, by omega, HI.out _, HBi.out _, by go_num, by omega, .inr ⟨by omega, by omega, .inl (by omega)⟩⟩
        case measure =>
          rw [iter_pos (HI.out _), HM.out]
          omega
      · by_cases hbe : b = a + pos
        · have hr : R = true := by
            rw [HR.out]
            simp
            omega
          have HRt := Lib.hid hr
          clear e3 hr
          have e4 : ((a : Int) + (pos : Int) == (b : Int)) = true := by
            simp
            omega
          clear hbe
          go_wp2
          go_ret
          exact ⟨ret_bool HRt.out.symm, HBi.out _⟩
        · have e4 : ((a : Int) + (pos : Int) == (b : Int)) = false := by
            simp
            omega
          have HRf : Hid (R = false) := Lib.hid (by
            rcases e3 with e3 | e3
            · rw [HR.out]
              simp
              omega
            · exact e3)
          clear e3
          go_wp2
          go_roundw
          case rel => exact ⟨pos + kk, n + 1, hw2, HI.out _, HBi.out _, by go_num, by omega, .inr ⟨by omega, by omega, .inr HRf.out⟩⟩
          case measure =>
            rw [iter_pos (HI.out _), HM.out]
            omega
    · have hnx := fun ty => next_end (P := Tryz.prog) hit hlt ty
      have hml := HML.out
      have HRf : Hid (R = false) := Lib.hid (by
        rcases HS.out with ⟨e1, e2⟩ | ⟨e1, e2, e3⟩
        · omega
        · rcases e3 with e3 | e3
          · rw [HR.out]
            simp
            omega
          · exact e3)
      obtain ⟨w5, hw5⟩ : ∃ w5 : World, w5 = wr := ⟨_, rfl⟩
      subst hw5
      go_wp2
      go_ret
      exact ⟨ret_bool HRf.out.symm, HB.out⟩

end Go.Proofs.YtogcbmhcddcfkaaGreatDoor
