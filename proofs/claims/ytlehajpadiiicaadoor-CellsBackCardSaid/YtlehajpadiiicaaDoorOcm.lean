/- The Taker's methods, over what they hold: contracts, no statement. -/
import Derived.Test.YtlehajpadiiicaaDoorOcu
namespace Go.Proofs.YtlehajpadiiicaaDoor
open Go.RowKit
set_option linter.unusedVariables false

theorem tNum_nil (w : World) : Calls Tryd.prog 30 #[.pointer none, .int .i64 1] w fun e w' => e = .returned (.int .u64 0) ∧ w = w' := by
  go_enter Tryd.func30, Tryd.ntmps30
  go_wp2_with (first | (go_at_call 33; refine (isSize_yes _ _ (by omega) (by omega)).mono ?_; rintro e w' ⟨rfl, rfl⟩) | (go_at_call 36; refine (takenN_nil _ _).mono ?_; rintro e w' ⟨rfl, rfl⟩))
  go_ret
  exact ⟨rfl, rfl⟩
theorem tNum_any (base P : Nat) (l : List UInt8) (er size : Int) (w : World) (h : Tk w base P l er) :
    Calls Tryd.prog 30 #[.pointer (some ⟨P, 0, none⟩), .int .i64 size] w (NumEnd base P w (stN l er size).1 (stN l er size).2.1 (stN l er size).2.2) := by
  by_cases hs : size < 1 ∨ 8 < size
  · have h' := h
    obtain ⟨A, c, hP, hb, hR, h1, h2⟩ := h
    by_cases h0 : er = 0
    · subst h0
      simp only [stN, ne_eq, not_true, if_false, if_pos hs]
      have HS := Lib.hid hs
      have HT := Lib.hid h'
      clear h' hs hR h1 h2
      go_enter Tryd.func30, Tryd.ntmps30
      go_wp2_with (first | (go_at_call 33; refine (isSize_no _ _ HS.out).mono ?_; rintro e w' ⟨rfl, rfl⟩) | (go_at_call 35; refine (fail_first P _ 1 _ hP).mono ?_; rintro e w' ⟨rfl, rfl⟩))
      go_ret
      exact ⟨rfl, HT.out.failed 1, only_store (only_refl w P) 1 _⟩
    · simp only [stN, ne_eq, h0, not_false_eq_true, if_true]
      have hq : (er == 0) = false := by simpa using h0
      have HS := Lib.hid hs
      have HT := Lib.hid h'
      clear h' hs hR h1 h2 h0
      go_enter Tryd.func30, Tryd.ntmps30
      go_wp2_with (first | (go_at_call 33; refine (isSize_no _ _ HS.out).mono ?_; rintro e w' ⟨rfl, rfl⟩) | (go_at_call 35; refine (fail_again P _ er 1 _ hP hq).mono ?_; rintro e w' ⟨rfl, rfl⟩))
      go_ret
      exact ⟨rfl, HT.out, only_refl w P⟩
  · have h1 : 1 ≤ size := by omega
    have h8 : size ≤ 8 := by omega
    clear hs
    have HT := Lib.hid h
    clear h
    go_enter Tryd.func30, Tryd.ntmps30
    go_wp2_with (first | (go_at_call 33; refine (isSize_yes _ _ h1 h8).mono ?_; rintro e w' ⟨rfl, rfl⟩) | (go_at_call 36; refine (takenN_any base P l er size _ HT.out h1 h8).mono ?_; rintro e w' ⟨rfl, h3, h4⟩; have H3 := Lib.hid h3; have H4 := Lib.hid h4; clear h3 h4))
    go_ret
    exact ⟨rfl, H3.out, H4.out⟩

theorem stN_one (l : List UInt8) (er : Int) : (stN l er 1).1 ≤ 255 := by
  unfold stN
  split
  · simp
  · split
    · simp
    · split
      · simp
      · have := numOf_take_lt l 1 1 (Nat.le_refl _)
        simp only [Int.toNat_one] at this ⊢
        omega


theorem ptr_nil_yes (w : World) : (binOp .eql 59 (.pointer none) (.pointer none)).run Tryd.prog w = .ok (.bool true) w := by kernel_rfl
theorem tRest_nil (w : World) : Calls Tryd.prog 31 #[.pointer none] w fun e w' => e = .returned (.slice none 0 0) ∧ w = w' := by
  go_enter Tryd.func31, Tryd.ntmps31
  go_wp2
  go_ret
  exact ⟨rfl, rfl⟩
theorem tRest_any (base P : Nat) (l : List UInt8) (er : Int) (w : World) (h : Tk w base P l er) (hl : l.length ≤ 1000000) :
    Calls Tryd.prog 31 #[.pointer (some ⟨P, 0, none⟩)] w (BytEnd base P w (stS l er l.length).1 (stS l er l.length).2.1 (stS l er l.length).2.2) := by
  obtain ⟨A, c, hP, _⟩ := id h
  have hc := hP.cell0
  have HT := Lib.hid (takenB_any base P l er w h hl)
  clear h hP
  go_enter Tryd.func31, Tryd.ntmps31
  go_wp2_with (first | (go_at_call 38; refine HT.out.mono ?_; rintro e w1 ⟨⟨A', c', rfl, h1, h2, h3⟩, h4, h5⟩; have H3 := Lib.hid h3; have H4 := Lib.hid h4; have H5 := Lib.hid h5; clear h3 h4 h5))
  go_ret
  exact ⟨⟨A', c', rfl, h1, h2, H3.out⟩, H4.out, H5.out⟩

/-! Err, Done over Tk -/
def dn (l : List UInt8) (er : Int) : Int := if er ≠ 0 then er else if 0 < l.length then 11 else 0
theorem tErr_any {base P : Nat} {l : List UInt8} {er : Int} {w : World} (h : Tk w base P l er) : Calls Tryd.prog 40 #[.pointer (some ⟨P, 0, none⟩)] w fun e w' => e = .returned (.int .i64 er) ∧ w = w' := by
  obtain ⟨A, c, hP, _⟩ := h
  exact err_some P _ er w hP
theorem tDone_any {base P : Nat} {l : List UInt8} {er : Int} {w : World} (h : Tk w base P l er) : Calls Tryd.prog 32 #[.pointer (some ⟨P, 0, none⟩)] w fun e w' => e = .returned (.int .i64 (dn l er)) ∧ w = w' := by
  obtain ⟨A, c, hP, _⟩ := h
  unfold dn
  by_cases h0 : er = 0
  · subst h0
    by_cases hl : 0 < l.length
    · simp only [ne_eq, not_true, if_false, if_pos hl]
      exact done_left P A _ c w hP hl
    · have : l.length = 0 := by omega
      rw [this] at hP
      simp only [ne_eq, not_true, if_false, if_neg hl]
      exact done_ok P A c w hP
  · simp only [ne_eq, h0, not_false_eq_true, if_true]
    exact done_bad P _ er w hP (by simpa using h0)
theorem Tk.below {w w' : World} {base P : Nat} {l : List UInt8} {er : Int} (h : Tk w base P l er) (hb : Below w.heap.size w w') : Tk w' base P l er := by
  obtain ⟨A, c, hP, h0, hR, h1, h2⟩ := h
  exact ⟨A, c, hP.below hb hP.lt, h0, hR.below hb, h1, h2⟩
/-- Only a block that lies ahead has turned. -/
theorem Tk.away {w w' : World} {base P g : Nat} {l : List UInt8} {er : Int} (h : Tk w base P l er) (hg : w.grownBy w' (some g)) (hb : g < base) : Tk w' base P l er := by
  obtain ⟨A, c, hP, h0, hR, h1, h2⟩ := h
  exact ⟨A, c, hP.grown hg (by intro e; injection e with e; omega), h0, hR.away hb hg, h1, h2⟩
/-- Another block's step: it is of another type than a Taker's and than bytes. -/
theorem Tk.beside {w w' : World} {base P Q : Nat} {t : TypeId} {cs : Array Value} {l : List UInt8} {er : Int} (h : Tk w base P l er) (hQ : Has w Q t cs) (h50 : 67 ≠ t) (h5 : 5 ≠ t) (hg : w.grownBy w' (some Q)) : Tk w' base P l er := by
  obtain ⟨A, c, hP, h0, hR, h1, h2⟩ := h
  exact ⟨A, c, hP.grown hg (by intro e; injection e with e; exact hP.apart hQ h50 e), h0, hR.grown hQ h5 hg, h1, h2⟩
theorem own_num (w : World) (x n : Nat) (hn : n ≤ 8) : (w.alloc (.cells ((numB x n).map byteV).toArray 5)).ownsRow w.heap.size 5 1 (.slice (some ⟨w.heap.size, 0, none⟩) n n) n ((numB x n).map byteV) :=
  ⟨by simp [numB_len], .inr ⟨w.heap.size, n, _, rfl, Nat.le_refl _, heap_alloc_new w _, Nat.le_refl _, by unfold maxLen; omega, by simp [numB_len], by rw [List.toList_toArray]; exact List.take_of_length_le (by simp [numB_len])⟩⟩
theorem own_low {w : World} {b b' : Nat} {e : TypeId} {s n : Nat} {v : Value} {xs : List Value} (h : w.ownsRow b e s v n xs) (hb : b' ≤ b) : w.ownsRow b' e s v n xs :=
  ⟨h.1, h.2.imp id (fun ⟨g, cap, cur, h1, h2, h3⟩ => ⟨g, cap, cur, h1, Nat.le_trans hb h2, h3⟩)⟩
theorem tk_base {w : World} {base P : Nat} {l : List UInt8} {er : Int} (h : Tk w base P l er) : base ≤ P := by
  obtain ⟨_, _, _, hb, _⟩ := h
  exact hb
theorem tk_apart_of {w : World} {base P g : Nat} {t : TypeId} {l : List UInt8} {er : Int} {cs : Array Value} (h : Tk w base P l er) (hg : Has w g t cs) (hne : t ≠ 67) : g ≠ P := by
  obtain ⟨_, _, hP, _⟩ := h
  exact hg.apart hP hne
theorem tk_apart {w : World} {base P g : Nat} {l : List UInt8} {er : Int} {cs : Array Value} (h : Tk w base P l er) (hg : Has w g 49 cs) : g ≠ P := tk_apart_of h hg (by decide)

end Go.Proofs.YtlehajpadiiicaaDoor
