/- The walk of the law CrcOpens. -/
import Derived.Test.YthpmkpagjbkcjaaDoorCrca
namespace Go.Proofs.YthpmkpagjbkcjaaDoor
open Go.RowKit
set_option linter.unusedVariables false

theorem numB_inj (x y : Nat) (hx : x < 4294967296) (hy : y < 4294967296) (h : numB x 4 = numB y 4) : x = y := by
  have hj : ∀ j, j < 4 → x / 256 ^ (3 - j) % 256 = y / 256 ^ (3 - j) % 256 := fun j hj => by
    have h1 := numB_at x 4 j hj
    have h2 := numB_at y 4 j hj
    rw [h, h2] at h1
    injection h1 with h1
    have h3 := congrArg UInt8.toNat h1
    simpa using h3.symm
  have h0 := hj 0 (by omega)
  have h1 := hj 1 (by omega)
  have h2 := hj 2 (by omega)
  have h3 := hj 3 (by omega)
  simp at h0 h1 h2 h3
  omega
/-- A sum of l ahead of other bytes. -/
theorem isTag_with (l m : List UInt8) : isTag (numB (ofN l) 4 ++ m) ↔ ofN m = ofN l := by
  have hd : (numB (ofN l) 4 ++ m).drop 4 = m := by
    have := List.drop_left (l₁ := numB (ofN l) 4) (l₂ := m)
    rwa [numB_len] at this
  constructor
  · intro h
    have h2 := h.2
    rw [hd] at h2
    unfold tagB at h2
    exact numB_inj _ _ (ofN_lt _) (ofN_lt _) (List.append_cancel_right h2)
  · intro h
    refine ⟨by simp [numB_len], ?_⟩
    rw [hd]
    unfold tagB
    rw [h]
/-- One byte turned. -/
theorem turn_one (l : List UInt8) (x : UInt8) (h : 0 < l.length) : ofN (l.set 0 (l[0] ^^^ x)) = ofN l ↔ x = 0 := by
  constructor
  · intro he
    by_cases hx : x.toNat = 0
    · exact UInt8.toNat_inj.1 (by simpa using hx)
    · exfalso
      exact burst l (l.set 0 (l[0] ^^^ x)) 0 x.toNat (by simp) (by rw [dg_xor l 0 x h]; simp) (by omega) (by have := x.toNat_lt; omega) hx he
  · rintro rfl
    have : l[0] ^^^ (0 : UInt8) = l[0] := by simp
    rw [this, List.set_getElem_self]

theorem Row.update {w : World} {t : TypeId} {lo i : Nat} {A : Option Addr} {xs : List Value} (h : Row w t lo A xs) (hi : i < xs.length) :
    ∃ g off u, A = some ⟨g, off, none⟩ ∧ lo ≤ g ∧ xs[i]? = some u ∧ w.cell? ⟨g, off + i, none⟩ = some u ∧ w.frozen? ⟨g, off + i, none⟩ = false ∧ ∀ v, Row (w.setCell ⟨g, off + i, none⟩ v) t lo A (xs.set i v) := by
  obtain ⟨g, off, cs, hA, hl, hg, hc⟩ := h (by omega)
  have hu := hc i xs[i] (List.getElem?_eq_getElem hi)
  refine ⟨g, off, xs[i], hA, hl, List.getElem?_eq_getElem hi, by rw [hg.cell]; exact hu, hg.free _, fun v _ => ⟨g, off, _, hA, hl, hg.store _ _, fun j u hj => ?_⟩⟩
  have hlt : off + i < cs.size := (Array.getElem?_eq_some_iff.1 hu).1
  by_cases he : i = j
  · subst he
    rw [Array.getElem?_setIfInBounds_self_of_lt hlt]
    rw [List.getElem?_set_self hi] at hj
    exact hj
  · rw [Array.getElem?_setIfInBounds_ne (by omega)]
    rw [List.getElem?_set_ne he] at hj
    exact hc j u hj

/-- Open, as a bool. -/
def OpenB (w : World) (b : Bool) (e : Ending) (w' : World) : Prop := ∃ A n c, e = .returned (.tuple #[.slice A n c, .bool b]) ∧ Below w.heap.size w w'
theorem open_b (l : List UInt8) (w : World) (A : Option Addr) (n c : Nat) (b : Bool) (htab : Tab w) (hn : n = l.length) (hc : n ≤ c) (hl : l.length ≤ 1000000) (hb : isTag l ↔ b = true) (h : Reads w A (l.map byteV)) :
    Calls Tryd.prog 9 #[.slice A n c] w (OpenB w b) :=
  (cOpen_any A n c l w htab hn hc hl h).mono fun e w' hh => by
    rcases hh with ⟨ht, A', c', he, _, hB⟩ | ⟨ht, he, hB⟩
    · have := hb.1 ht
      subst this
      exact ⟨A', _, c', he, hB⟩
    · have : b = false := by
        cases b
        · rfl
        · exact absurd (hb.2 rfl) ht
      subst this
      exact ⟨none, 0, 0, he, hB⟩

/-- Tag, its length told. -/
def TagN (w : World) (l : List UInt8) (e : Ending) (w' : World) : Prop :=
  ∃ A c, e = .returned (.slice A (l.length + 4) c) ∧ l.length + 4 ≤ c ∧ c ≤ maxLen ∧ Row w' 5 w.heap.size A ((tagB l).map byteV) ∧ Below w.heap.size w w'
theorem tag_n (A : Option Addr) (c : Nat) (l : List UInt8) (w : World) (htab : Tab w) (hl : l.length ≤ 900000) (h : Arg w A l.length c l) : Calls Tryd.prog 15 #[.slice A l.length c] w (TagN w l) :=
  (cTag_any A l.length c l w htab rfl (by omega) h.reads h.none_).mono fun e w' ⟨A', c', he, h1, h2, h3, h4⟩ => by
    rw [tagB_len] at he h1
    exact ⟨A', c', he, h1, h2, h3, h4⟩
theorem open_tag_n (l : List UInt8) (w : World) (A : Option Addr) (c lo : Nat) (htab : Tab w) (hc : l.length + 4 ≤ c) (hl : l.length ≤ 900000) (h : Row w 5 lo A ((tagB l).map byteV)) :
    Calls Tryd.prog 9 #[.slice A (l.length + 4) c] w (TagEnd w l) := by
  have := open_tag l w A c lo htab (by rw [tagB_len]; exact hc) hl h
  rw [tagB_len] at this
  exact this

set_option maxRecDepth 100000 in
set_option maxHeartbeats 8000000 in
theorem walkOpens (A : Option Addr) (n c : Nat) (x : UInt8) (l : List UInt8) (w : World) (htab : Tab w) (hb : Arg w A n c l) :
    Calls Tryd.prog 7 #[.slice A n c, .int .u8 x.toNat] w fun e w' => e = .returned (.bool true) ∧ Below w.heap.size w w' := by
  have HTB := Lib.hid htab
  clear htab
  have hnl := hb.len
  subst hnl
  by_cases hg : l.length ≤ 1000
  · have HA := Lib.hid hb
    have e1 : decide (1000 < (l.length : Int)) = false := by simp; omega
    have hroom := hb.room
    have hmost := hb.most
    unfold maxLen at hmost
    have HT := Lib.hid (fun w1 (h1 : Below w.heap.size w w1) => tag_n A c l w1 (HTB.out.below h1) (by omega) (hb.below h1))
    clear hb
    by_cases h0 : l.length = 0
    · have hl0 : l = [] := List.eq_nil_of_length_eq_zero h0
      subst hl0
      have HT' : Hid (∀ w1, Below w.heap.size w w1 → Calls Tryd.prog 15 #[.slice A 0 c] w1 (TagN w1 [])) := HT
      have HP' : Hid (∀ (w1 : World) (A1 : Option Addr) (c1 lo : Nat), Tab w1 → 4 ≤ c1 → Row w1 5 lo A1 ((tagB []).map byteV) → Calls Tryd.prog 9 #[.slice A1 4 c1] w1 (TagEnd w1 [])) := Lib.hid (fun w1 A1 c1 lo ht hc h => open_tag_n [] w1 A1 c1 lo ht hc (by simp) h)
      clear HT h0
      go_enter Tryd.func7, Tryd.ntmps7
      go_wp2_with (first
        | (go_at_call 8; refine (awake02_any _ HTB.out).mono ?_; rintro e w0 ⟨rfl, h0⟩; have B0 := Lib.hid h0; clear h0)
        | (go_at_call 15; refine (HT'.out _ B0.out).mono ?_; rintro e w1 ⟨A1, c1, rfl, g1, g2, h1, h2⟩; have g4 : 4 ≤ c1 := g1; clear g1; have R1 := Lib.hid h1; have B1 := Lib.hid (below_step B0.out h2); clear h1 h2)
        | (go_at_call 9; (with_reducible refine (HP'.out w1 A1 c1 _ (HTB.out.below B1.out) g4 R1.out).mono ?_); rintro e w2 ⟨A2, c2, rfl, h1, h2⟩; have hv2 := str_row (n := 0) (c := c2) rfl h1; have hw2 := run_string_of (P := Tryd.prog) w2 22 9 5 Tryd.underlying22 Tryd.underlying5 Tryd.underlying9 (A := A) (n := 0) (cap := c) (l := []) rfl Reads.empty; have B2 := Lib.hid (below_step B1.out h2); clear h1 h2))
      go_ret
      exact ⟨rfl, B2.out⟩
    · have h0' : ((l.length : Int) == 0) = false := beq_false_of_ne (by omega)
      have hpos : 1 ≤ l.length := by omega
      clear h0
      obtain ⟨l0, hl0⟩ : ∃ l0, l[0]? = some l0 := ⟨_, List.getElem?_eq_getElem (by omega)⟩
      have hg0 : l[0]'(by omega) = l0 := by rw [List.getElem?_eq_getElem (by omega)] at hl0; injection hl0
      have HTK : Hid ((tagB l).take (l.length + 3) = numB (ofN l) 4 ++ l.dropLast) := Lib.hid (by
        unfold tagB
        rw [List.take_append, List.take_of_length_le (by rw [numB_len]; omega), numB_len, List.dropLast_eq_take]
        try (congr 2))
      have HT4 : Hid ((tagB l)[4]? = some l0) := Lib.hid (by
        unfold tagB
        rw [List.getElem?_append_right (by rw [numB_len]; omega), numB_len]
        exact hl0)
      have HST : Hid (((tagB l).map byteV).set 4 (byteV (l0 ^^^ x)) = (numB (ofN l) 4 ++ l.set 0 (l0 ^^^ x)).map byteV) := Lib.hid (by
        rw [← List.map_set]
        have e : (tagB l).set 4 (l0 ^^^ x) = numB (ofN l) 4 ++ l.set 0 (l0 ^^^ x) := by
          unfold tagB
          rw [List.set_append_right _ _ (by rw [numB_len]; omega), numB_len]
        rw [e])
      have HI1 : Hid (isTag (numB (ofN l) 4 ++ l.dropLast) ↔ ((ofN l.dropLast : Int) == (ofN l : Int)) = true) := Lib.hid (by
        rw [isTag_with, beq_iff_eq]
        omega)
      have HI2 : Hid (isTag (numB (ofN l) 4 ++ l.set 0 (l0 ^^^ x)) ↔ ((x.toNat : Int) == 0) = true) := Lib.hid (by
        have := turn_one l x (by omega)
        rw [hg0] at this
        rw [isTag_with, this, beq_iff_eq]
        constructor
        · rintro rfl; rfl
        · intro h; exact UInt8.toNat_inj.1 (by simp; omega))
      have hxx : Hid (byteV (l0 ^^^ x) = .int .u8 (bits .xor .u8 (l0.toNat : Int) (x.toNat : Int))) := Lib.hid (by
        unfold byteV
        have h1 := l0.toNat_lt
        have h2 := x.toNat_lt
        rw [u8_xor_nat _ _ (by omega) (by omega), UInt8.toNat_xor])
      have HO1 := Lib.hid (fun w1 (h1 : Below w.heap.size w w1) => cOf_any A (l.length - 1) c l.dropLast w1 (HTB.out.below h1) (by simp) (by simp; omega) (by rw [List.dropLast_eq_take, List.map_take]; exact (HA.out.below h1).reads.take _))
      have HO2 := Lib.hid (fun w1 (h1 : Below w.heap.size w w1) => cOf_any A l.length c l w1 (HTB.out.below h1) rfl (by omega) (HA.out.below h1).reads)
      clear hl0 hg0
      go_enter Tryd.func7, Tryd.ntmps7
      go_wp2_with (first
        | (go_at_call 8; refine (awake02_any _ HTB.out).mono ?_; rintro e w0 ⟨rfl, h0⟩; have B0 := Lib.hid h0; clear h0)
        | (go_at_call 15; refine (HT.out _ B0.out).mono ?_; rintro e w1 ⟨A1, c1, rfl, g1, g2, h1, h2⟩; unfold maxLen at g2; obtain ⟨gt, ot, _, hA1, hgt, _, _⟩ := h1 (by simp [tagB_len]); subst hA1; have R1 := Lib.hid h1; have B1 := Lib.hid (below_step B0.out h2); have LG : Hid (w.heap.size ≤ gt) := Lib.hid (Nat.le_trans B0.out.size hgt); clear h1 h2 hgt)
        | (go_at_call 11; (with_reducible refine (HO2.out _ B6.out).mono ?_); rintro e w7 ⟨rfl, h2⟩; have B7 := Lib.hid (below_step B6.out h2); clear h2)
        | (go_at_call 11; (with_reducible refine (HO1.out _ B5.out).mono ?_); rintro e w6 ⟨rfl, h2⟩; have B6 := Lib.hid (below_step B5.out h2); clear h2)
        | (go_at_call 9; (with_reducible refine (open_b (numB (ofN l) 4 ++ l.set 0 (l0 ^^^ x)) _ (some ⟨gt, ot, none⟩) (l.length + 4) c1 _ (HTB.out.below B4.out) ?_ g1 ?_ HI2.out ?_).mono ?_); (simp [numB_len]; omega); (simp [numB_len]; omega); (exact R4.out.reads); rintro e w5 ⟨A5, n5, c5, rfl, h2⟩; have B5 := Lib.hid (below_step B4.out h2); clear h2)
        | (go_at_call 9; (with_reducible refine (open_b (numB (ofN l) 4 ++ l.dropLast) w2 (some ⟨gt, ot, none⟩) (l.length + 3) c1 _ (HTB.out.below B2.out) ?_ ?_ ?_ HI1.out ?_).mono ?_); (simp [numB_len]; omega); (omega); (simp [numB_len]; omega); (rw [← HTK.out, List.map_take]; exact R2.out.reads.take _); rintro e w3 ⟨A3, n3, c3, rfl, h2⟩; have B3 := Lib.hid (below_step B2.out h2); obtain ⟨g9, o9, u9, hA9, _, hu9, hc9, hf9, hn9⟩ := (R2.out.below h2).update (i := 4) (by simp [tagB_len]; omega); injection hA9 with hA9; injection hA9 with q1 q2; subst q1 q2; rw [List.getElem?_map, HT4.out] at hu9; injection hu9 with hu9; subst hu9; unfold byteV at hc9; have h9 := hn9 (byteV (l0 ^^^ x)); rw [HST.out, hxx.out] at h9; have R4 := Lib.hid h9; have B4 := Lib.hid (B3.out.setCell (p := ⟨gt, ot + 4, none⟩) LG.out (.int .u8 (bits .xor .u8 (l0.toNat : Int) (x.toNat : Int)))); clear h9; clear h2 hn9)
        | (go_at_call 9; (with_reducible refine (open_tag_n l w1 (some ⟨gt, ot, none⟩) c1 _ (HTB.out.below B1.out) g1 (by omega) R1.out).mono ?_); rintro e w2 ⟨A2, c2, rfl, h1, h2⟩; have hv2 := str_row (n := l.length) (c := c2) rfl h1; have hw2 := run_string_of (P := Tryd.prog) w2 22 9 5 Tryd.underlying22 Tryd.underlying5 Tryd.underlying9 (cap := c) HA.out.len (HA.out.below (below_step B1.out h2)).reads; have R2 := Lib.hid (R1.out.below h2); have B2 := Lib.hid (below_step B1.out h2); clear h1 h2))
      go_ret
      exact ⟨rfl, B7.out⟩
  · have e1 : decide (1000 < (l.length : Int)) = true := by simp; omega
    clear hb
    go_enter Tryd.func7, Tryd.ntmps7
    go_wp2_with (go_at_call 8; refine (awake02_any _ HTB.out).mono ?_; rintro e w0 ⟨rfl, h0⟩; have B0 := Lib.hid h0; clear h0)
    go_ret
    exact ⟨rfl, B0.out⟩

end Go.Proofs.YthpmkpagjbkcjaaDoor
