import Derived.Test.YtogcbmhcddcfkaaGreatDoorJCoParses
import Derived.Test.YtogcbmhcddcfkaaGreatDoorJ49
/- Of a claim's texts, joined: CoOnce. No statement but in the last. -/
namespace Go.Proofs.YtogcbmhcddcfkaaGreatDoor
open Go.RowKit
set_option linter.unusedVariables false

theorem parse_cases (L : List UInt8) : (∃ c, parseN L = (c, 0, 0, 0) ∧ checkC c = true) ∨ ∃ a k, parseN L = (cf0, 13, a, k) ∧ ((a = 0 ∧ k = 0) ∨ ∃ c, parseL (linesN L) 1 cf0 = (c, some (a, k))) := by
  obtain ⟨⟨c, o⟩, hp⟩ : ∃ r, parseL (linesN L) 1 cf0 = r := ⟨_, rfl⟩
  cases o with
  | none =>
    rw [parseN_end hp]
    by_cases h : checkC { c with up := closeN c.up } = true
    · rw [if_pos h]
      exact .inl ⟨_, rfl, h⟩
    · rw [if_neg h]
      exact .inr ⟨0, 0, rfl, .inl ⟨rfl, rfl⟩⟩
  | some ak =>
    obtain ⟨a, k⟩ := ak
    exact .inr ⟨a, k, parseN_bad hp, .inr ⟨c, hp⟩⟩
theorem show_len {c : Cf} (h : checkC c = true) : (showN c).length ≤ 450000 := by
  have hk := (okc_iff c).1 h
  have h1 := labs_len hk c.names.length (Nat.le_refl _)
  have h2 := unds_len hk c.names.length
  have h3 := gras_len hk c.grants.length (Nat.le_refl _)
  have h4 := hk.n64
  have h5 := checkG64 hk.gra
  unfold showN
  rw [if_pos h, List.length_append, List.length_append]
  omega
theorem box_cells {w : World} {p : Nat} {a b c d : Value} (h : Has w p 28 #[a, b, c, d]) : w.cell? ⟨p, 0, none⟩ = some a ∧ w.cell? ⟨p, 1, none⟩ = some b ∧ w.cell? ⟨p, 2, none⟩ = some c ∧ w.cell? ⟨p, 3, none⟩ = some d := by
  rw [h.cell, h.cell, h.cell, h.cell]
  simp

set_option maxRecDepth 100000 in
set_option maxHeartbeats 4000000 in
theorem walkCoOnce (L : List UInt8) (w : World) (ht : Base5 w) :
    Calls Tryz.prog 8 #[.string ⟨L.toArray⟩] w fun e w' => e = .returned (.bool true) ∧ Below w.heap.size w w' := by
  have HT := Lib.hid ht
  have hsz : (⟨L.toArray⟩ : ByteArray).size = L.length := size_list L
  clear ht
  by_cases hl : 2000 < L.length
  · have e1 : decide (2000 < (L.length : Int)) = true := by simp; omega
    go_enter Tryz.func8, Tryz.ntmps8
    go_wp2_with (go_at_call 9; refine (awake05_any _ HT.out).mono ?_; rintro e w0 ⟨rfl, h0⟩; have B0 := Lib.hid h0; clear h0)
    go_ret
    exact ⟨rfl, B0.out⟩
  · have e1 : decide (2000 < (L.length : Int)) = false := by simp; omega
    have HP1 := Lib.hid (fun w1 (hb : Below w.heap.size w w1) => coParse_any L w1 (HT.out.below hb) (by omega))
    rcases parse_cases L with ⟨c, hr, hck⟩ | ⟨a, k, hr, _⟩
    · rw [hr] at HP1
      have hk := (okc_iff c).1 hck
      have hn64 := hk.n64
      have hup := hk.ups
      have hqu := hk.quo
      have hgr := checkG64 hk.gra
      have hsl := show_len hck
      have HSh := Lib.hid (fun (nA : Option Addr) (nn nc : Nat) (uA : Option Addr) (un uc : Nat) (qA : Option Addr) (qn qc : Nat) (gA : Option Addr) (gn gc : Nat) w1 (hb : Below w.heap.size w w1) (h : ArgC w1 ⟨nA, nn, nc, uA, un, uc, qA, qn, qc, gA, gn, gc⟩ c) => show Calls Tryz.prog 17 #[.agg #[.slice nA nn nc, .slice uA un uc, .slice qA qn qc, .slice gA gn gc]] w1 (TextEnd (showN c) w1) from coShow_any c ⟨nA, nn, nc, uA, un, uc, qA, qn, qc, gA, gn, gc⟩ w1 (HT.out.below hb) h (by have := h.names.len; omega) (by have := h.up.len; omega))
      have HCk := Lib.hid (fun (nA : Option Addr) (nn nc : Nat) (uA : Option Addr) (un uc : Nat) (qA : Option Addr) (qn qc : Nat) (gA : Option Addr) (gn gc : Nat) w1 (hb : Below w.heap.size w w1) (h : ArgC w1 ⟨nA, nn, nc, uA, un, uc, qA, qn, qc, gA, gn, gc⟩ c) => show Calls Tryz.prog 15 #[.agg #[.slice nA nn nc, .slice uA un uc, .slice qA qn qc, .slice gA gn gc]] w1 (BoolEnd true w1) by
        have := coCheck_any c ⟨nA, nn, nc, uA, un, uc, qA, qn, qc, gA, gn, gc⟩ w1 (HT.out.below hb) h (by have := h.names.len; omega) (by have := h.up.len; omega)
        rwa [hck] at this)
      have HP2 := Lib.hid (fun (hm : ∀ x ∈ c.up, x < 2 ^ 64) w1 (hb : Below w.heap.size w w1) => show Calls Tryz.prog 10 #[.string ⟨(showN c).toArray⟩] w1 (ParseEnd (c, 0, 0, 0) w1) by
        have := coParse_any (showN c) w1 (HT.out.below hb) (by omega)
        rwa [back_plain hck hm] at this)
      have HSame := Lib.hid (fun (nA : Option Addr) (nn nc : Nat) (uA : Option Addr) (un uc : Nat) (qA : Option Addr) (qn qc : Nat) (gA : Option Addr) (gn gc : Nat) (nA' : Option Addr) (nn' nc' : Nat) (uA' : Option Addr) (un' uc' : Nat) (qA' : Option Addr) (qn' qc' : Nat) (gA' : Option Addr) (gn' gc' : Nat) w1 (h1 : ArgC w1 ⟨nA, nn, nc, uA, un, uc, qA, qn, qc, gA, gn, gc⟩ c) (h2 : ArgC w1 ⟨nA', nn', nc', uA', un', uc', qA', qn', qc', gA', gn', gc'⟩ c) => show Calls Tryz.prog 12 #[.agg #[.slice nA nn nc, .slice uA un uc, .slice qA qn qc, .slice gA gn gc], .agg #[.slice nA' nn' nc', .slice uA' un' uc', .slice qA' qn' qc', .slice gA' gn' gc']] w1 (BoolEnd true w1) from r5Same_same c ⟨nA, nn, nc, uA, un, uc, qA, qn, qc, gA, gn, gc⟩ ⟨nA', nn', nc', uA', un', uc', qA', qn', qc', gA', gn', gc'⟩ w1 h1 h2 (by omega) (by omega) (by omega) (by omega))
      have hne : (showN c == []) = false := by
        have := show_ne hck
        simpa using this
      have hne2 : (showN c != []) = true := by
        have := show_ne hck
        simpa using this
      clear hr hk hup hqu hgr
      generalize showN c = T at *
      go_enter Tryz.func8, Tryz.ntmps8
      go_wp2_with (first
        | (go_at_call 9; refine (awake05_any _ HT.out).mono ?_; rintro e w0 ⟨rfl, h0⟩; have B0 := Lib.hid h0; clear h0)
        | (go_at_call 10; (with_reducible refine (HP1.out _ B0.out).mono ?_); rintro e w1 ⟨s, rfl, h1, h2⟩; have B1 := Lib.hid (below_step B0.out h2); have A1 := Lib.hid h1; clear h1 h2; obtain ⟨nA, nn, nc, uA, un, uc, qA, qn, qc, gA, gn, gc⟩ := s; unfold Cs.v
           have BA1 := Lib.hid (below_alloc' B1.out (.cells #[.slice nA nn nc, .slice uA un uc, .slice qA qn qc, .slice gA gn gc] 28))
           have A1a := Lib.hid (A1.out.below ((Below.refl _ w1).alloc (Nat.le_refl _) (.cells #[.slice nA nn nc, .slice uA un uc, .slice qA qn qc, .slice gA gn gc] 28)))
           have X1 := Lib.hid (Has.made w1 28 #[.slice nA nn nc, .slice uA un uc, .slice qA qn qc, .slice gA gn gc]))
        | (go_at_call 17; (with_reducible refine (HSh.out _ _ _ _ _ _ _ _ _ _ _ _ _ BA1.out A1a.out).mono ?_); rintro e w2 ⟨rfl, h2⟩; have B2 := Lib.hid (below_step BA1.out h2); have A1b := Lib.hid (A1a.out.below h2); have X1b := Lib.hid (X1.out.below h2 X1.out.lt); clear h2)
        | (go_at_call 10; (with_reducible refine (HP2.out A1.out.up.big _ B2.out).mono ?_); rintro e w3 ⟨s, rfl, h1, h2⟩; have B3 := Lib.hid (below_step B2.out h2); have A2 := Lib.hid h1; have A1c := Lib.hid (A1b.out.below h2); have X1c := Lib.hid (X1b.out.below h2 X1b.out.lt); clear h1 h2; obtain ⟨nA', nn', nc', uA', un', uc', qA', qn', qc', gA', gn', gc'⟩ := s; unfold Cs.v
           have BA3 := Lib.hid (below_alloc' B3.out (.cells #[.slice nA' nn' nc', .slice uA' un' uc', .slice qA' qn' qc', .slice gA' gn' gc'] 28))
           have A1d := Lib.hid (A1c.out.below ((Below.refl _ w3).alloc (Nat.le_refl _) (.cells #[.slice nA' nn' nc', .slice uA' un' uc', .slice qA' qn' qc', .slice gA' gn' gc'] 28)))
           have A2d := Lib.hid (A2.out.below ((Below.refl _ w3).alloc (Nat.le_refl _) (.cells #[.slice nA' nn' nc', .slice uA' un' uc', .slice qA' qn' qc', .slice gA' gn' gc'] 28)))
           have X1d := Lib.hid (X1c.out.alloc (.cells #[.slice nA' nn' nc', .slice uA' un' uc', .slice qA' qn' qc', .slice gA' gn' gc'] 28))
           have X2d := Lib.hid (Has.made w3 28 #[.slice nA' nn' nc', .slice uA' un' uc', .slice qA' qn' qc', .slice gA' gn' gc'])
           obtain ⟨⟨b0, b1, b2, b3⟩, d0, d1, d2, d3⟩ := boxes5 X1d.out X2d.out)
        | (go_at_call 15; (with_reducible refine (HCk.out _ _ _ _ _ _ _ _ _ _ _ _ _ BA3.out A1d.out).mono ?_); rintro e w4 ⟨rfl, h4⟩; have B4 := Lib.hid (below_step BA3.out h4); have A1e := Lib.hid (A1d.out.below h4); have A2e := Lib.hid (A2d.out.below h4); have X1e := Lib.hid (X1d.out.below h4 X1d.out.lt); have X2e := Lib.hid (X2d.out.below h4 X2d.out.lt); clear h4 b0 b1 b2 b3 d0 d1 d2 d3; obtain ⟨⟨b0, b1, b2, b3⟩, d0, d1, d2, d3⟩ := boxes5 X1e.out X2e.out)
        | (go_at_call 12; (with_reducible refine (HSame.out _ _ _ _ _ _ _ _ _ _ _ _ _ _ _ _ _ _ _ _ _ _ _ _ _ A1e.out A2e.out).mono ?_); rintro e w5 ⟨rfl, h5⟩; have B5 := Lib.hid (below_step B4.out h5); have A2f := Lib.hid (A2e.out.below h5); have X2f := Lib.hid (X2e.out.below h5 X2e.out.lt); clear h5 b0 b1 b2 b3 d0 d1 d2 d3; obtain ⟨d0, d1, d2, d3⟩ := box_cells X2f.out)
        | (go_at_call 17; (with_reducible refine (HSh.out _ _ _ _ _ _ _ _ _ _ _ _ _ B5.out A2f.out).mono ?_); rintro e w6 ⟨rfl, h6⟩; have B6 := Lib.hid (below_step B5.out h6); clear h6))
      go_ret
      exact ⟨rfl, B6.out⟩
    · rw [hr] at HP1
      have HSh := Lib.hid (fun s w1 (hb : Below w.heap.size w w1) (h : ArgC w1 s cf0) => show Calls Tryz.prog 17 #[s.v] w1 (TextEnd [] w1) by
        have := coShow_any cf0 s w1 (HT.out.below hb) h (by have := h.names.len; simp [cf0] at this; omega) (by have := h.up.len; simp [cf0] at this; omega)
        rwa [show0] at this)
      clear hr
      go_enter Tryz.func8, Tryz.ntmps8
      go_wp2_with (first
        | (go_at_call 9; refine (awake05_any _ HT.out).mono ?_; rintro e w0 ⟨rfl, h0⟩; have B0 := Lib.hid h0; clear h0)
        | (go_at_call 10; (with_reducible refine (HP1.out _ B0.out).mono ?_); rintro e w1 ⟨s, rfl, h1, h2⟩; have B1 := Lib.hid (below_step B0.out h2); have A1 := Lib.hid h1; clear h1 h2; obtain ⟨nA, nn, nc, uA, un, uc, qA, qn, qc, gA, gn, gc⟩ := s; unfold Cs.v
           have BA1 := Lib.hid (below_alloc' B1.out (.cells #[.slice nA nn nc, .slice uA un uc, .slice qA qn qc, .slice gA gn gc] 28))
           have A1a := Lib.hid (A1.out.below ((Below.refl _ w1).alloc (Nat.le_refl _) (.cells #[.slice nA nn nc, .slice uA un uc, .slice qA qn qc, .slice gA gn gc] 28))))
        | (go_at_call 17; (refine (HSh.out ⟨nA, nn, nc, uA, un, uc, qA, qn, qc, gA, gn, gc⟩ _ BA1.out A1a.out).mono ?_); rintro e w2 ⟨rfl, h2⟩; have B2 := Lib.hid (below_step BA1.out h2); clear h2))
      go_ret
      exact ⟨rfl, B2.out⟩

end Go.Proofs.YtogcbmhcddcfkaaGreatDoor
