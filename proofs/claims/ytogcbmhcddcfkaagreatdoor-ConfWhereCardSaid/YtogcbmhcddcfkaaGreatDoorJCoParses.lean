import Derived.Test.YtogcbmhcddcfkaaGreatDoorJCoa
/- Of a claim's texts, joined: CoParses. No statement but in the last. -/
namespace Go.Proofs.YtogcbmhcddcfkaaGreatDoor
open Go.RowKit
set_option linter.unusedVariables false

theorem parseN_small (L : List UInt8) : (parseN L).1.names.length ≤ 1000 ∧ (parseN L).1.up.length ≤ 1000 ∧ (parseN L).1.quotas.length ≤ 1000 ∧ (parseN L).1.grants.length ≤ 1000 := by
  have h0 : cf0.names.length ≤ 1000 ∧ cf0.up.length ≤ 1000 ∧ cf0.quotas.length ≤ 1000 ∧ cf0.grants.length ≤ 1000 := by simp [cf0]
  unfold parseN
  split
  · exact h0
  · rename_i c _
    split
    · rename_i h
      have k := (okc_iff _).1 h
      have k1 := k.n64
      have k2 := k.ups
      have k3 := k.quo
      have k4 := checkG64 k.gra
      simp only at k1 k2 k3 k4 ⊢
      omega
    · exact h0

theorem boxes5 {w : World} {p q : Nat} {a b c d a' b' c' d' : Value} (h : Has w p 28 #[a, b, c, d]) (k : Has w q 28 #[a', b', c', d']) :
    (w.cell? ⟨p, 0, none⟩ = some a ∧ w.cell? ⟨p, 1, none⟩ = some b ∧ w.cell? ⟨p, 2, none⟩ = some c ∧ w.cell? ⟨p, 3, none⟩ = some d) ∧
      (w.cell? ⟨q, 0, none⟩ = some a' ∧ w.cell? ⟨q, 1, none⟩ = some b' ∧ w.cell? ⟨q, 2, none⟩ = some c' ∧ w.cell? ⟨q, 3, none⟩ = some d') := by
  rw [h.cell, h.cell, h.cell, h.cell, k.cell, k.cell, k.cell, k.cell]
  simp
set_option maxRecDepth 100000 in
set_option maxHeartbeats 2000000 in
theorem walkCoParses (L : List UInt8) (w : World) (ht : Base5 w) :
    Calls Tryz.prog 3 #[.string ⟨L.toArray⟩] w fun e w' => e = .returned (.bool true) ∧ Below w.heap.size w w' := by
  have HT := Lib.hid ht
  have hsz : (⟨L.toArray⟩ : ByteArray).size = L.length := size_list L
  clear ht
  by_cases hl : 2000 < L.length
  · have e1 : decide (2000 < (L.length : Int)) = true := by simp; omega
    go_enter Tryz.func3, Tryz.ntmps3
    go_wp2_with (go_at_call 9; refine (awake05_any _ HT.out).mono ?_; rintro e w0 ⟨rfl, h0⟩; have B0 := Lib.hid h0; clear h0)
    go_ret
    exact ⟨rfl, B0.out⟩
  · have e1 : decide (2000 < (L.length : Int)) = false := by simp; omega
    have HP1 := Lib.hid (fun w1 (hb : Below w.heap.size w w1) => coParse_any L w1 (HT.out.below hb) (by omega))
    have HP2 := Lib.hid (fun w1 => r5Parse_any L w1 (by omega))
    have HSm := Lib.hid (parseN_small L)
    generalize parseN L = r at HP1 HP2 HSm
    obtain ⟨cf, er, ln, at_⟩ := r
    simp only at HP1 HP2 HSm
    have HSame := Lib.hid (fun s t w1 (h1 : ArgC w1 s cf) (h2 : ArgC w1 t cf) => r5Same_same cf s t w1 h1 h2 (by have := HSm.out; omega) (by have := HSm.out; omega) (by have := HSm.out; omega) (by have := HSm.out; omega))
    go_enter Tryz.func3, Tryz.ntmps3
    go_wp2_with (first
      | (go_at_call 9; refine (awake05_any _ HT.out).mono ?_; rintro e w0 ⟨rfl, h0⟩; have B0 := Lib.hid h0; clear h0)
      | (go_at_call 10; (with_reducible refine (HP1.out _ B0.out).mono ?_); rintro e w1 ⟨s, rfl, h1, h2⟩; have B1 := Lib.hid (below_step B0.out h2); have A1 := Lib.hid h1; clear h1 h2; obtain ⟨nA, nn, nc, uA, un, uc, qA, qn, qc, gA, gn, gc⟩ := s; unfold Cs.v
         have BA1 := Lib.hid (below_alloc' B1.out (.cells #[.slice nA nn nc, .slice uA un uc, .slice qA qn qc, .slice gA gn gc] 28))
         have A1a := Lib.hid (A1.out.below ((Below.refl _ w1).alloc (Nat.le_refl _) (.cells #[.slice nA nn nc, .slice uA un uc, .slice qA qn qc, .slice gA gn gc] 28)))
         have X1 := Lib.hid (Has.made w1 28 #[.slice nA nn nc, .slice uA un uc, .slice qA qn qc, .slice gA gn gc]))
      | (go_at_call 11; (with_reducible refine (HP2.out _).mono ?_); rintro e w2 ⟨s, rfl, h1, h2⟩; have B2 := Lib.hid (below_step BA1.out h2); have A2 := Lib.hid h1; have A1b := Lib.hid (A1a.out.below h2); have X1b := Lib.hid (X1.out.below h2 X1.out.lt); clear h1 h2; obtain ⟨nA', nn', nc', uA', un', uc', qA', qn', qc', gA', gn', gc'⟩ := s; unfold Cs.v
         have BA2 := Lib.hid (below_alloc' B2.out (.cells #[.slice nA' nn' nc', .slice uA' un' uc', .slice qA' qn' qc', .slice gA' gn' gc'] 28))
         have A1c := Lib.hid (A1b.out.below ((Below.refl _ w2).alloc (Nat.le_refl _) (.cells #[.slice nA' nn' nc', .slice uA' un' uc', .slice qA' qn' qc', .slice gA' gn' gc'] 28)))
         have A2c := Lib.hid (A2.out.below ((Below.refl _ w2).alloc (Nat.le_refl _) (.cells #[.slice nA' nn' nc', .slice uA' un' uc', .slice qA' qn' qc', .slice gA' gn' gc'] 28)))
         obtain ⟨⟨b0, b1, b2, b3⟩, d0, d1, d2, d3⟩ := boxes5 (X1b.out.alloc (.cells #[.slice nA' nn' nc', .slice uA' un' uc', .slice qA' qn' qc', .slice gA' gn' gc'] 28)) (Has.made w2 28 #[.slice nA' nn' nc', .slice uA' un' uc', .slice qA' qn' qc', .slice gA' gn' gc']))
      | (go_at_call 12; (refine (HSame.out ⟨nA, nn, nc, uA, un, uc, qA, qn, qc, gA, gn, gc⟩ ⟨nA', nn', nc', uA', un', uc', qA', qn', qc', gA', gn', gc'⟩ _ A1c.out A2c.out).mono ?_); rintro e w3 ⟨rfl, h1⟩; have B3 := Lib.hid (below_step BA2.out h1); clear h1))
    go_ret
    exact ⟨ret_bool (by simp), B3.out⟩

end Go.Proofs.YtogcbmhcddcfkaaGreatDoor
