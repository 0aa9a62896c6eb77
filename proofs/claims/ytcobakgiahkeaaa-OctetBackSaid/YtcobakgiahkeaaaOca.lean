/- The laws' first step (the document's examples): it answers true, and turns nothing that was there. -/
import Derived.Test.YtcobakgiahkeaaaOcn
namespace Go.Proofs.Ytcobakgiahkeaaa
open Go.RowKit
set_option linter.unusedVariables false

theorem num258 (base P : Nat) (w : World) (h : Tk w base P [1, 2, 2, 97, 98, 9] 0) : Calls Try.prog 14 #[.pointer (some ⟨P, 0, none⟩), .int .i64 2] w (NumEnd base P w 258 [2, 97, 98, 9] 0) := by
  have h := tNum_any base P _ 0 2 w h
  rw [show stN [1, 2, 2, 97, 98, 9] 0 2 = (258, [2, 97, 98, 9], 0) by decide] at h
  exact h
theorem textAb (base P : Nat) (w : World) (h : Tk w base P [2, 97, 98, 9] 0) : Calls Try.prog 16 #[.pointer (some ⟨P, 0, none⟩)] w (StrEnd base P w [97, 98] [9] 0) := by
  have h := tText_any base P _ 0 w h
  rw [show stT [2, 97, 98, 9] 0 = ([97, 98], [9], 0) by decide] at h
  exact h
theorem rest9 (base P : Nat) (w : World) (h : Tk w base P [9] 0) : Calls Try.prog 18 #[.pointer (some ⟨P, 0, none⟩)] w (BytEnd base P w [9] [] 0) := by
  have h := tRest_any base P _ 0 w h (by simp)
  rw [show stS ([9] : List UInt8) 0 ([9] : List UInt8).length = ([9], [], 0) by decide] at h
  exact h

/-- 'string(b)' in the walk's spelling. -/
theorem str_row {w : World} {lo n c : Nat} {A : Option Addr} {l : List UInt8} (hn : n = l.length) (h : Row w 5 lo A (l.map byteV)) : (convert 24 9 (.slice A n c)).run Try.prog w = .ok (.string ⟨l.toArray⟩) w :=
  run_string_of w 24 9 5 Try.underlying24 Try.underlying5 Try.underlying9 hn h.reads

theorem lit6 (w : World) : Reads (w.alloc (.cells #[.int .u8 1, .int .u8 2, .int .u8 2, .int .u8 97, .int .u8 98, .int .u8 9] 5)) (some ⟨w.heap.size, 0, none⟩) (([1, 2, 2, 97, 98, 9] : List UInt8).map byteV) := fun _ =>
  ⟨w.heap.size, 0, rfl, fun j u hj => by
    rw [(Has.made w 5 _).cell]
    simpa [byteV] using hj⟩

theorem Tk.base_le {w : World} {base P : Nat} {l : List UInt8} {er : Int} (h : Tk w base P l er) : base ≤ P := by
  obtain ⟨A, c, _, h0, _⟩ := h
  exact h0

theorem row_made (w : World) (l : List UInt8) : Row (w.alloc (.cells (l.map byteV).toArray 5)) 5 w.heap.size (some ⟨w.heap.size, 0, none⟩) (l.map byteV) := fun _ =>
  ⟨w.heap.size, 0, _, rfl, Nat.le_refl _, Has.made w 5 _, fun j u hj => by simpa using hj⟩
theorem Num_fresh (x n : Nat) (w : World) (hx : x < 18446744073709551616) (h1 : 1 ≤ n) (h8 : n ≤ 8) : Calls Try.prog 9 #[.int .u64 x, .int .i64 n] w (Fresh w.heap.size (numB x n) w) :=
  (Num_yes x n w hx h1 h8).mono fun e w' ⟨he, hw⟩ => ⟨some ⟨w.heap.size, 0, none⟩, n, by rw [he, numB_len], by rw [numB_len]; omega, by unfold maxLen; omega, hw ▸ row_made w _, hw ▸ (Below.refl _ w).alloc (Nat.le_refl _) _⟩
theorem num258B (w : World) : Calls Try.prog 9 #[.int .u64 258, .int .i64 2] w (Fresh w.heap.size [1, 2] w) := by
  have h := Num_fresh 258 2 w (by omega) (by omega) (by omega)
  rw [show numB 258 2 = [1, 2] by decide] at h
  exact h
theorem textabB (w : World) : Calls Try.prog 11 #[.string ⟨#[97, 98]⟩] w (Fresh w.heap.size [2, 97, 98] w) := by
  have h := Text_any ⟨#[97, 98]⟩ w (by decide)
  rw [show textB (⟨#[97, 98]⟩ : ByteArray).data.toList = [2, 97, 98] by decide] at h
  exact h

set_option maxHeartbeats 1000000 in
theorem awake_any (w : World) : Calls Try.prog 8 #[] w fun e w' => e = .returned (.bool true) ∧ Below w.heap.size w w' := by
  go_enter Try.func8, Try.ntmps8
  go_wp2_with (first
    | (go_at_call 13; refine (Take_any _ _ [1, 2, 2, 97, 98, 9] _ (by simp) (lit6 w)).mono ?_; rintro e w1 ⟨P, rfl, h1, h2⟩; have H1 := Lib.hid h1; have B1 := Lib.hid (((Below.refl _ w).alloc (Nat.le_refl _) _).trans (h2.mono (by simp))); clear h1 h2)
    | (go_at_call 14; refine (num258 _ P _ H1.out).mono ?_; rintro e w2 ⟨rfl, h1, h2⟩; have H2 := Lib.hid h1; have B2 := Lib.hid (B1.out.trans (below_only h2 (Nat.le_trans (by simp) h1.base_le) B1.out.size)); clear h1 h2)
    | (go_at_call 16; refine (textAb _ P _ H2.out).mono ?_; rintro e w3 ⟨rfl, h1, h2⟩; have H3 := Lib.hid h1; have B3 := Lib.hid (B2.out.trans (below_only h2 (Nat.le_trans (by simp) h1.base_le) B2.out.size)); clear h1 h2)
    | (go_at_call 21; refine (tDone_any H3.out).mono ?_; rintro e w' ⟨rfl, rfl⟩)
    | (go_at_call 18; refine (rest9 _ P _ H3.out).mono ?_; rintro e w4 ⟨⟨A4, c4, rfl, _, _, h0⟩, h1, h2⟩; have R4 := Lib.hid h0; have H4 := Lib.hid h1; have B4 := Lib.hid (B3.out.trans (below_only h2 (Nat.le_trans (by simp) h1.base_le) B3.out.size)); clear h0 h1 h2)
    | (go_at_call 9; refine (num258B _).mono ?_; rintro e w5 ⟨A5, c5, rfl, _, _, h0, h1⟩; have hv5 := str_row (n := 2) (c := c5) rfl h0; have R5 := Lib.hid (R4.out.below h1); have H5 := Lib.hid (H4.out.below h1); have B5 := Lib.hid (B4.out.trans (h1.mono B4.out.size)); clear h0 h1)
    | (go_at_call 11; refine (textabB _).mono ?_; rintro e w6 ⟨A6, c6, rfl, _, _, h0, h1⟩; have hv6 := str_row (n := 3) (c := c6) rfl h0; have hw6 := str_row (n := 1) (c := c4) rfl (R5.out.below h1); have H6 := Lib.hid (H5.out.below h1); have B6 := Lib.hid (B5.out.trans (h1.mono B5.out.size)); clear h0 h1)
    | (go_at_call 21; refine (tDone_any H6.out).mono ?_; rintro e w' ⟨rfl, rfl⟩)
    | (go_at_call 20; refine (tErr_any H6.out).mono ?_; rintro e w' ⟨rfl, rfl⟩))
  go_ret
  exact ⟨rfl, B6.out⟩

end Go.Proofs.Ytcobakgiahkeaaa
