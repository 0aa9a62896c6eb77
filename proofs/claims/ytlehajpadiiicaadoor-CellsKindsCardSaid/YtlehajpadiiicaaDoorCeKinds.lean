/- The walk of the law CellsKinds. -/
import Derived.Test.YtlehajpadiiicaaDoorCeUnpack
namespace Go.Proofs.YtlehajpadiiicaaDoor
open Go.RowKit
set_option linter.unusedVariables false

set_option maxRecDepth 100000 in
set_option maxHeartbeats 8000000 in
theorem walkCeKinds (a b : UInt8) (A : Option Addr) (n c : Nat) (q : List Hd) (w : World) (ht : Tab w) (h : CellsA w A n c q) :
    Calls Tryd.prog 7 #[.int .u8 (a.toNat : Int), .int .u8 (b.toNat : Int), .slice A n c] w fun e w' => e = .returned (.bool true) ∧ Below w.heap.size w w' := by
  have HT := Lib.hid ht
  have HSM := Lib.hid (fun w1 (hb : Below w.heap.size w w1) => small07_any A n c q w1 (h.below hb))
  by_cases hs : smallB q = true ∧ a ≠ 0 ∧ b ≠ 0
  · obtain ⟨hs, ha, hb0⟩ := hs
    rw [hs] at HSM
    have hf := small_few hs
    have ea : ((a.toNat : Int) == 0) = false := beq_false_of_ne (fun e => ha (UInt8.toNat_inj.1 (by simpa using e)))
    have eb : ((b.toNat : Int) == 0) = false := beq_false_of_ne (fun e => hb0 (UInt8.toNat_inj.1 (by simpa using e)))
    by_cases hz : cSz (lq q) ≤ 122
    · have HP := Lib.hid (fun w1 (hb : Below w.heap.size w w1) => cePack_yes a A n c q w1 (ht.below hb) (h.below hb) hf ⟨ha, hz⟩)
      have HQ := Lib.hid (fun w1 (hb : Below w.heap.size w w1) => cePack_yes b A n c q w1 (ht.below hb) (h.below hb) hf ⟨hb0, hz⟩)
      have HU := Lib.hid (fun A c w1 (hb : Below w.heap.size w w1) (h : Arg w1 A 128 c (cPage a (lq q))) => show Calls Tryd.prog 15 #[.slice A 128 c] w1 (UnpEnd (a, lq q, 0) w1) by
        have := ceUnpack_any A 128 c _ w1 (ht.below hb) h
        rwa [unpN_page ⟨ha, hz⟩] at this)
      have HPA := Lib.hid (cPage_len a (lq q) hz)
      have HPB := Lib.hid (cPage_len b (lq q) hz)
      have HLN : Hid (∀ {n' : Nat} {q' : List Hd}, n' = q'.length → lq q' = lq q → n' = n) := Lib.hid (fun h1 h2 => by
        rw [h1, ← lq_len, h2, lq_len, h.len])
      obtain ⟨v, hv, hw⟩ : ∃ v : Bool, (cPage a (lq q) == cPage b (lq q)) = v ∧ ((a.toNat : Int) == (b.toNat : Int)) = v := by
        refine ⟨_, rfl, ?_⟩
        rw [Bool.eq_iff_iff]
        simp [cPage_inj hz hz]
        constructor
        · intro e
          exact UInt8.toNat_inj.1 (by omega)
        · rintro rfl; rfl
      clear ht h hs ha hb0 hz hf
      cases v
      all_goals
        go_enter Tryd.func7, Tryd.ntmps7
        go_wp2_with (first
          | (go_at_call 8; (with_reducible refine (awake07_any _ HT.out).mono ?_); rintro e w0 ⟨rfl, h0⟩; have B0 := Lib.hid h0; clear h0)
          | (go_at_call 9; (with_reducible refine (HSM.out _ B0.out).mono ?_); rintro e w1 ⟨rfl, rfl⟩)
          | (go_at_call 10; (with_reducible refine (HP.out _ B0.out).mono ?_); rintro e w2 ⟨A2, c2, rfl, g1, g2, r2, b2⟩; have R2 := Lib.hid r2; have G1 := Lib.hid g1; have G2 := Lib.hid g2; have B2 := Lib.hid (below_step B0.out b2); clear r2 b2 g1 g2)
          | (go_at_call 10; (with_reducible refine (HQ.out _ B2.out).mono ?_); rintro e w3 ⟨A3, c3, rfl, g1, g2, r3, b3⟩; have Y3 := Lib.hid r3; have R3 := Lib.hid (R2.out.below b3); have B3 := Lib.hid (below_step B2.out b3); clear r3 b3 g1 g2)
          | (go_at_call 15; (with_reducible refine (HU.out _ _ _ B3.out (Arg.of_row R3.out HPA.out.symm (by decide) G1.out G2.out)).mono ?_); rintro e w4 ⟨A4, n4, c4, q4, rfl, k4, l4, b4⟩; obtain rfl := HLN.out k4.len l4; have R4 := Lib.hid (R3.out.below b4); have Y4 := Lib.hid (Y3.out.below b4); have B4 := Lib.hid (below_step B3.out b4); have hs1 := run_string_of (P := Tryd.prog) w4 25 9 5 Tryd.underlying25 Tryd.underlying5 Tryd.underlying9 (cap := c2) HPA.out.symm R4.out.reads; have hs2 := run_string_of (P := Tryd.prog) w4 25 9 5 Tryd.underlying25 Tryd.underlying5 Tryd.underlying9 (cap := c3) HPB.out.symm Y4.out.reads; clear k4 l4 b4))
        go_ret
        exact ⟨rfl, B4.out⟩
    · have HP := Lib.hid (fun w1 (hb : Below w.heap.size w w1) => cePack_no a A n c q w1 (h.below hb) hf (fun e => hz e.2))
      have HQ := Lib.hid (fun w1 (hb : Below w.heap.size w w1) => cePack_no b A n c q w1 (h.below hb) hf (fun e => hz e.2))
      clear ht h hs ha hb0 hz hf
      go_enter Tryd.func7, Tryd.ntmps7
      go_wp2_with (first
        | (go_at_call 8; (with_reducible refine (awake07_any _ HT.out).mono ?_); rintro e w0 ⟨rfl, h0⟩; have B0 := Lib.hid h0; clear h0)
        | (go_at_call 9; (with_reducible refine (HSM.out _ B0.out).mono ?_); rintro e w1 ⟨rfl, rfl⟩)
        | (go_at_call 10; (with_reducible refine (HP.out _ B0.out).mono ?_); rintro e w2 ⟨rfl, b2⟩; have B2 := Lib.hid (below_step B0.out b2); clear b2)
        | (go_at_call 10; (with_reducible refine (HQ.out _ B2.out).mono ?_); rintro e w3 ⟨rfl, b3⟩; have B3 := Lib.hid (below_step B2.out b3); clear b3))
      go_ret
      exact ⟨rfl, B3.out⟩
  · obtain ⟨u, hu⟩ : ∃ u, smallB q = u := ⟨_, rfl⟩
    obtain ⟨v1, hv1⟩ : ∃ v, ((a.toNat : Int) == 0) = v := ⟨_, rfl⟩
    obtain ⟨v2, hv2⟩ : ∃ v, ((b.toNat : Int) == 0) = v := ⟨_, rfl⟩
    have hno : u = false ∨ v1 = true ∨ v2 = true := by
      by_cases h1 : u = true
      · by_cases h2 : v1 = true
        · exact .inr (.inl h2)
        · by_cases h3 : v2 = true
          · exact .inr (.inr h3)
          · refine absurd ⟨hu.trans h1, fun e => h2 ?_, fun e => h3 ?_⟩ hs
            · subst e; rw [← hv1]; rfl
            · subst e; rw [← hv2]; rfl
      · left; simpa using h1
    rw [hu] at HSM
    clear ht h hs hu
    cases u <;> cases v1 <;> cases v2 <;> simp at hno
    all_goals
      go_enter Tryd.func7, Tryd.ntmps7
      go_wp2_with (first
        | (go_at_call 8; (with_reducible refine (awake07_any _ HT.out).mono ?_); rintro e w0 ⟨rfl, h0⟩; have B0 := Lib.hid h0; clear h0)
        | (go_at_call 9; (with_reducible refine (HSM.out _ B0.out).mono ?_); rintro e w1 ⟨rfl, rfl⟩))
      go_ret
      exact ⟨rfl, B0.out⟩

end Go.Proofs.YtlehajpadiiicaaDoor
