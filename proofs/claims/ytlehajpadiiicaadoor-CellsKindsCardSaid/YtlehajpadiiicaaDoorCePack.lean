/- The walk of the law CellsPack. -/
import Derived.Test.YtlehajpadiiicaaDoorCeg
namespace Go.Proofs.YtlehajpadiiicaaDoor
open Go.RowKit
set_option linter.unusedVariables false

theorem small_few {q : List Hd} (h : smallB q = true) : Few q := by
  have := of_decide_eq_true h
  exact ⟨by omega, fun x hx => by have := this.2 x hx; omega⟩
set_option maxRecDepth 100000 in
set_option maxHeartbeats 8000000 in
theorem walkCePack (kind : UInt8) (A : Option Addr) (n c : Nat) (q : List Hd) (w : World) (ht : Tab w) (h : CellsA w A n c q) :
    Calls Tryd.prog 3 #[.int .u8 (kind.toNat : Int), .slice A n c] w fun e w' => e = .returned (.bool true) ∧ Below w.heap.size w w' := by
  have HT := Lib.hid ht
  have HA := Lib.hid h
  have HSM := Lib.hid (fun w1 (hb : Below w.heap.size w w1) => small07_any A n c q w1 (h.below hb))
  cases hs : smallB q
  · rw [hs] at HSM
    clear ht h hs
    go_enter Tryd.func3, Tryd.ntmps3
    go_wp2_with (first
      | (go_at_call 8; (with_reducible refine (awake07_any _ HT.out).mono ?_); rintro e w0 ⟨rfl, h0⟩; have B0 := Lib.hid h0; clear h0)
      | (go_at_call 9; (with_reducible refine (HSM.out _ B0.out).mono ?_); rintro e w1 ⟨rfl, rfl⟩))
    go_ret
    exact ⟨rfl, B0.out⟩
  · rw [hs] at HSM
    have hf := small_few hs
    have HF := Lib.hid hf
    have hql : q.length ≤ 1000000 := by have := hf.1; omega
    have HTX := Lib.hid (fun w1 (hb : Below w.heap.size w w1) => texts_any A n c q w1 (h.below hb) hql)
    have HSZ := Lib.hid (fun w1 (hb : Below w.heap.size w w1) => ceSize_any A n c q w1 (h.below hb) hf)
    have HRS := Lib.hid (fun A c w1 (hb : TxtA w1 A (lq q).length (lq q)) => r7Size_any A _ c (lq q) w1 hb hf.size)
    by_cases hy : cFits kind (lq q)
    · have HP := Lib.hid (fun w1 (hb : Below w.heap.size w w1) => cePack_yes kind A n c q w1 (ht.below hb) (h.below hb) hf hy)
      have HRP := Lib.hid (fun A c w1 (hb : TxtA w1 A (lq q).length (lq q)) => r7Pack_yes kind A _ c (lq q) w1 hb hy)
      have HPL := Lib.hid (cPage_len kind (lq q) hy.2)
      clear ht h hs hf hql hy
      generalize cSz (lq q) = sz at *
      go_enter Tryd.func3, Tryd.ntmps3
      go_wp2_with (first
        | (go_at_call 8; (with_reducible refine (awake07_any _ HT.out).mono ?_); rintro e w0 ⟨rfl, h0⟩; have B0 := Lib.hid h0; clear h0)
        | (go_at_call 9; (with_reducible refine (HSM.out _ B0.out).mono ?_); rintro e w1 ⟨rfl, rfl⟩)
        | (go_at_call 10; (with_reducible refine (HP.out _ B0.out).mono ?_); rintro e w2 ⟨A2, c2, rfl, g1, g2, r2, b2⟩; have R2 := Lib.hid r2; have B2 := Lib.hid (below_step B0.out b2); clear r2 b2)
        | (go_at_call 12; (with_reducible refine (HTX.out _ B2.out).mono ?_); rintro e w3 ⟨A3, c3, rfl, t3, b3⟩; have T3 := Lib.hid t3; have R3 := Lib.hid (R2.out.below b3); have B3 := Lib.hid (below_step B2.out b3); clear t3 b3)
        | (go_at_call 11; (with_reducible refine (HRP.out _ _ _ T3.out).mono ?_); rintro e w4 ⟨rfl, b4⟩; have R4 := Lib.hid (R3.out.below b4); have B4 := Lib.hid (below_step B3.out b4); clear b4)
        | (go_at_call 13; (with_reducible refine (HSZ.out _ B4.out).mono ?_); rintro e w5 ⟨rfl, rfl⟩)
        | (go_at_call 12; (with_reducible refine (HTX.out _ B4.out).mono ?_); rintro e w6 ⟨A6, c6, rfl, t6, b6⟩; have T6 := Lib.hid t6; have R6 := Lib.hid (R4.out.below b6); have B6 := Lib.hid (below_step B4.out b6); have hst := run_string_of (P := Tryd.prog) w6 25 9 5 Tryd.underlying25 Tryd.underlying5 Tryd.underlying9 (cap := c2) HPL.out.symm R6.out.reads; clear t6 b6)
        | (go_at_call 14; (with_reducible refine (HRS.out _ _ _ T6.out).mono ?_); rintro e w7 ⟨rfl, rfl⟩))
      go_ret
      exact ⟨rfl, B6.out⟩
    · have HP := Lib.hid (fun w1 (hb : Below w.heap.size w w1) => cePack_no kind A n c q w1 (h.below hb) hf hy)
      have HRP := Lib.hid (fun A c w1 (hb : TxtA w1 A (lq q).length (lq q)) => r7Pack_no kind A _ c (lq q) w1 hb hf.size hy)
      have hst := fun (W : World) => run_string_of (P := Tryd.prog) W 25 9 5 Tryd.underlying25 Tryd.underlying5 Tryd.underlying9 (A := none) (n := 0) (cap := 0) (l := []) rfl Reads.empty
      clear ht h hs hf hql hy
      generalize cSz (lq q) = sz at *
      go_enter Tryd.func3, Tryd.ntmps3
      go_wp2_with (first
        | (go_at_call 8; (with_reducible refine (awake07_any _ HT.out).mono ?_); rintro e w0 ⟨rfl, h0⟩; have B0 := Lib.hid h0; clear h0)
        | (go_at_call 9; (with_reducible refine (HSM.out _ B0.out).mono ?_); rintro e w1 ⟨rfl, rfl⟩)
        | (go_at_call 10; (with_reducible refine (HP.out _ B0.out).mono ?_); rintro e w2 ⟨rfl, b2⟩; have B2 := Lib.hid (below_step B0.out b2); clear b2)
        | (go_at_call 12; (with_reducible refine (HTX.out _ B2.out).mono ?_); rintro e w3 ⟨A3, c3, rfl, t3, b3⟩; have T3 := Lib.hid t3; have B3 := Lib.hid (below_step B2.out b3); clear t3 b3)
        | (go_at_call 11; (with_reducible refine (HRP.out _ _ _ T3.out).mono ?_); rintro e w4 ⟨rfl, b4⟩; have B4 := Lib.hid (below_step B3.out b4); clear b4)
        | (go_at_call 13; (with_reducible refine (HSZ.out _ B4.out).mono ?_); rintro e w5 ⟨rfl, rfl⟩)
        | (go_at_call 12; (with_reducible refine (HTX.out _ B4.out).mono ?_); rintro e w6 ⟨A6, c6, rfl, t6, b6⟩; have T6 := Lib.hid t6; have B6 := Lib.hid (below_step B4.out b6); clear t6 b6)
        | (go_at_call 14; (with_reducible refine (HRS.out _ _ _ T6.out).mono ?_); rintro e w7 ⟨rfl, rfl⟩))
      go_ret
      exact ⟨rfl, B6.out⟩

end Go.Proofs.YtlehajpadiiicaaDoor
