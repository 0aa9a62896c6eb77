/- The walk of the law CellsUnpack. -/
import Derived.Test.YtlehajpadiiicaaDoorCePack
import Derived.Lib.ConvBytes
namespace Go.Proofs.YtlehajpadiiicaaDoor
open Go.RowKit
set_option linter.unusedVariables false

/-- '[]byte(s)': a slice of its own that reads as the text. -/
theorem conv_arg (w : World) (l : List UInt8) (hl : l.length ≤ 1000000) : ∃ c W, (convert 9 25 (.string ⟨l.toArray⟩)).run Tryd.prog w = .ok (.slice (some ⟨w.heap.size, 0, none⟩) l.length c) W ∧ Arg W (some ⟨w.heap.size, 0, none⟩) l.length c l ∧ Below w.heap.size w W := by
  have h := Lib.run_convert_string_bytes (P := Tryd.prog) w 9 25 5 ⟨l.toArray⟩ Tryd.underlying9 Tryd.underlying25 Tryd.underlying5
  rw [size_list] at h
  refine ⟨_, _, h, ⟨rfl, fun hx => ⟨w.heap.size, 0, rfl, fun j u hj => ?_⟩, ?_, ?_, ?_, fun h => by cases h⟩, ?_⟩
  · have hjl := (List.getElem?_eq_some_iff.1 hj).1
    rw [List.length_map] at hjl
    rw [Nat.zero_add, Lib.bytesWorld_cell w 5 ⟨l.toArray⟩ j (by rw [size_list]; exact hjl), ← hj]
    simp [List.getD, hjl, byteV]
  · intro _ a ha
    injection ha with ha
    subst ha
    rw [Lib.bytesWorld_size]
    exact Nat.lt_succ_self _
  · exact grownCap_ge w _ 0 5
  · exact grownCap_le_maxLen w _ 0 5 (by unfold maxLen; omega)
  · exact ⟨rfl, rfl, rfl, by rw [Lib.bytesWorld_size]; omega, fun i hi => Lib.bytesWorld_at_old w 5 ⟨l.toArray⟩ i hi⟩
theorem unp_short (l : List UInt8) : (unpN l).2.1.length ≤ 122 := by
  unfold unpN
  split
  · simp
  · split
    · simp
    · split
      · simp
      · rename_i h _ _
        exact few_slots l (by simpa using h)
theorem unpN_sum {b : List UInt8} (h : b.length = 128) (ht : ¬ isTag b) : unpN b = (0, [], 12) := by
  unfold unpN
  rw [if_neg (by rw [h]; simp), if_pos ht]
/-- Both are the same, step by step. -/
theorem same_yes (A B : Option Addr) (n c m d : Nat) (l : List (List UInt8)) (w : World) (h : TxtA w A n l) (h' : TxtA w B m l) (hl : n ≤ 1000000) :
    Calls Tryd.prog 17 #[.slice A n c, .slice B m d] w (fun e w' => e = .returned (.bool true) ∧ Below w.heap.size w w') := by
  have := r7Same_any A B n c m d l l w h h' hl
  rw [show sameB l l = true from decide_eq_true rfl] at this
  exact this

set_option maxRecDepth 100000 in
set_option maxHeartbeats 8000000 in
theorem walkCeUnpack (A : Option Addr) (n c : Nat) (l : List UInt8) (w : World) (ht : Tab w) (h : Arg w A n c l) :
    Calls Tryd.prog 4 #[.slice A n c] w fun e w' => e = .returned (.bool true) ∧ Below w.heap.size w w' := by
  have HT := Lib.hid ht
  have HA := Lib.hid h
  have hm := h.most
  have hr := h.room
  unfold maxLen at hm
  by_cases hn : n ≤ 300
  · have hll : l.length ≤ 300 := by rw [← h.len]; exact hn
    have HU := Lib.hid (fun w1 (hb : Below w.heap.size w w1) => ceUnpack_any A n c l w1 (ht.below hb) (h.below hb))
    have HST := Lib.hid (fun w1 (hb : Below w.heap.size w w1) => run_string_of (P := Tryd.prog) w1 25 9 5 Tryd.underlying25 Tryd.underlying5 Tryd.underlying9 (cap := c) h.len (h.below hb).reads)
    have HRU : Hid (∀ w1, Calls Tryd.prog 16 #[.string ⟨l.toArray⟩] w1 (RUnpEnd (unpN l) w1)) := Lib.hid (fun w1 => r7Unpack_any ⟨l.toArray⟩ w1 (by rw [size_list]; omega))
    have HTG : Hid (∀ w1, Calls Tryd.prog 18 #[.string ⟨l.toArray⟩] w1 fun e w' => e = .returned (.string ⟨(tagB l).toArray⟩) ∧ Below w1.heap.size w1 w') := Lib.hid (fun w1 => r2Tag_any ⟨l.toArray⟩ w1 (by rw [size_list]; omega))
    have htl : (tagB l).length ≤ 1000 := by rw [tagB_len]; omega
    have HCV := Lib.hid (fun w1 => conv_arg w1 (tagB l) (by omega))
    have HU2 := Lib.hid (fun A c w1 (hb : Below w.heap.size w w1) (h : Arg w1 A (tagB l).length c (tagB l)) => ceUnpack_any A _ c (tagB l) w1 (ht.below hb) h)
    have HRU2 : Hid (∀ w1, Calls Tryd.prog 16 #[.string ⟨(tagB l).toArray⟩] w1 (RUnpEnd (unpN (tagB l)) w1)) := Lib.hid (fun w1 => r7Unpack_any ⟨(tagB l).toArray⟩ w1 (by rw [size_list]; omega))
    have HS1 := Lib.hid (unp_short l)
    have HS2 := Lib.hid (unp_short (tagB l))
    have HTX := Lib.hid (fun A n c q w1 (h : CellsA w1 A n c q) (hq : (lq q).length ≤ 122) => texts_any A n c q w1 h (by rw [lq_len] at hq; omega))
    clear ht h hll htl
    go_enter Tryd.func4, Tryd.ntmps4
    go_wp2_with (first
      | (go_at_call 8; (with_reducible refine (awake07_any _ HT.out).mono ?_); rintro e w0 ⟨rfl, h0⟩; have B0 := Lib.hid h0; clear h0)
      | (go_at_call 15; (with_reducible refine (HU.out _ B0.out).mono ?_); rintro e w1 ⟨A1, n1, c1, q1, rfl, k1, k2, b1⟩; have K1 := Lib.hid k1; have L1 := Lib.hid k2; have B1 := Lib.hid (below_step B0.out b1); have hst := HST.out w1 B1.out; clear k1 k2 b1)
      | (go_at_call 16; (with_reducible refine (HRU.out _).mono ?_); rintro e w2 ⟨A2, n2, c2, rfl, t2, b2⟩; have T2 := Lib.hid t2; have K2 := Lib.hid (K1.out.below b2); have B2 := Lib.hid (below_step B1.out b2); clear t2 b2)
      | (go_at_call 12; (with_reducible refine (HTX.out _ _ _ _ _ K2.out ?_).mono ?_); (rw [L1.out]; exact HS1.out); rintro e w3 ⟨A3, c3, rfl, t3, b3⟩; have T3 := Lib.hid t3; have T2b := Lib.hid (T2.out.below b3); have B3 := Lib.hid (below_step B2.out b3); clear t3 b3)
      | (go_at_call 17; (with_reducible refine (same_yes _ _ _ _ _ _ _ _ T3.out (by rw [L1.out]; exact T2b.out) ?_).mono ?_); (rw [L1.out]; have := HS1.out; omega); rintro e w4 ⟨rfl, b4⟩; have B4 := Lib.hid (below_step B3.out b4); have hst4 := HST.out w4 B4.out; clear b4)
      | (go_at_call 18; (with_reducible refine (HTG.out _).mono ?_); rintro e w5 ⟨rfl, b5⟩; have B5 := Lib.hid (below_step B4.out b5); obtain ⟨cc, W5, hcv, hca, hcb⟩ := HCV.out w5; have CA := Lib.hid hca; have B6 := Lib.hid (below_step B5.out hcb); clear b5 hca hcb)
      | (go_at_call 15; (with_reducible refine (HU2.out _ _ _ B6.out CA.out).mono ?_); rintro e w7 ⟨A7, n7, c7, q7, rfl, k7, l7, b7⟩; have K7 := Lib.hid k7; have L7 := Lib.hid l7; have B7 := Lib.hid (below_step B6.out b7); clear k7 l7 b7)
      | (go_at_call 16; (with_reducible refine (HRU2.out _).mono ?_); rintro e w8 ⟨A8, n8, c8, rfl, t8, b8⟩; have T8 := Lib.hid t8; have K8 := Lib.hid (K7.out.below b8); have B8 := Lib.hid (below_step B7.out b8); clear t8 b8)
      | (go_at_call 12; (with_reducible refine (HTX.out _ _ _ _ _ K8.out ?_).mono ?_); (rw [L7.out]; exact HS2.out); rintro e w9 ⟨A9, c9, rfl, t9, b9⟩; have T9 := Lib.hid t9; have T8b := Lib.hid (T8.out.below b9); have B9 := Lib.hid (below_step B8.out b9); clear t9 b9)
      | (go_at_call 17; (with_reducible refine (same_yes _ _ _ _ _ _ _ _ T9.out (by rw [L7.out]; exact T8b.out) ?_).mono ?_); (rw [L7.out]; have := HS2.out; omega); rintro e w10 ⟨rfl, b10⟩; have B10 := Lib.hid (below_step B9.out b10); clear b10))
    go_ret
    exact ⟨rfl, B10.out⟩
  · have e1 : (300 : Int) < (n : Int) := by omega
    clear ht h
    go_enter Tryd.func4, Tryd.ntmps4
    go_wp2_with (go_at_call 8; (with_reducible refine (awake07_any _ HT.out).mono ?_); rintro e w0 ⟨rfl, h0⟩; have B0 := Lib.hid h0; clear h0)
    go_ret
    exact ⟨rfl, B0.out⟩

end Go.Proofs.YtlehajpadiiicaaDoor
