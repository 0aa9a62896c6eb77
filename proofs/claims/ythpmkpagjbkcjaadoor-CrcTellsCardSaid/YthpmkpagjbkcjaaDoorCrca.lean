/- The first step of the laws of layer 2 (the document's example): it answers true, and turns nothing that was there. -/
import Derived.Test.YthpmkpagjbkcjaaDoorCrcc
import Derived.Lib.SlBytesConst
namespace Go.Proofs.YthpmkpagjbkcjaaDoor
open Go.RowKit
set_option linter.unusedVariables false

/-- A literal of bytes, or of a constant text. -/
theorem lit_reads (w : World) (l : List UInt8) (fr : Nat × Nat) (cs : Array Value) (h : cs = (l.map byteV).toArray) : Reads (w.alloc (.cells cs 5 fr)) (some ⟨w.heap.size, 0, none⟩) (l.map byteV) := fun _ =>
  ⟨w.heap.size, 0, rfl, fun j u hj => by
    subst h
    rw [World.cell?_alloc_mark]
    simpa using hj⟩
theorem bytes_const (w : World) (C : Array Value) (n c : Nat) : (convert 22 22 (.slice (some ⟨w.heap.size, 0, none⟩) n c)).run Tryd.prog (w.alloc (.cells C 5)) = .ok (.slice (some ⟨w.heap.size, 0, none⟩) n c) (w.alloc (.cells C 5 (C.size, C.size + 1))) :=
  Lib.run_convert_bytes_const (P := Tryd.prog) w 22 5 C n c Tryd.underlying22 Tryd.underlying5

theorem isTag_tag (l : List UInt8) : isTag (tagB l) := by
  have e : (tagB l).drop 4 = l := by
    unfold tagB
    have := List.drop_left (l₁ := numB (ofN l) 4) (l₂ := l)
    rwa [numB_len] at this
  exact ⟨by rw [tagB_len]; omega, by rw [e]⟩
theorem drop_tag (l : List UInt8) : (tagB l).drop 4 = l := by
  unfold tagB
  have := List.drop_left (l₁ := numB (ofN l) 4) (l₂ := l)
  rwa [numB_len] at this

/-- What Open answers to what is tagged. -/
def TagEnd (w : World) (l : List UInt8) (e : Ending) (w' : World) : Prop := ∃ A c, e = .returned (.tuple #[.slice A l.length c, .bool true]) ∧ Row w' 5 w.heap.size A (l.map byteV) ∧ Below w.heap.size w w'
theorem open_tag (l : List UInt8) (w : World) (A : Option Addr) (c lo : Nat) (ht : Tab w) (hc : (tagB l).length ≤ c) (hl : l.length ≤ 900000) (h : Row w 5 lo A ((tagB l).map byteV)) :
    Calls Tryd.prog 9 #[.slice A (tagB l).length c] w (TagEnd w l) :=
  (cOpen_any A _ c (tagB l) w ht rfl hc (by rw [tagB_len]; omega) h.reads).mono fun e w' hh => by
    rcases hh with ⟨_, A', c', he, hr, hb⟩ | ⟨hn, _⟩
    · rw [drop_tag] at he hr
      exact ⟨A', c', he, hr, hb⟩
    · exact absurd (isTag_tag _) hn
/-- Any other slice is not opened. -/
theorem open_no (l : List UInt8) (w : World) (A : Option Addr) (n c : Nat) (htab : Tab w) (hn : n = l.length) (hc : n ≤ c) (hl : l.length ≤ 1000000) (ht : ¬ isTag l) (h : Reads w A (l.map byteV)) :
    Calls Tryd.prog 9 #[.slice A n c] w fun e w' => e = .returned (.tuple #[.slice none 0 0, .bool false]) ∧ Below w.heap.size w w' :=
  (cOpen_any A n c l w htab hn hc hl h).mono fun e w' hh => by
    rcases hh with ⟨hn, _⟩ | ⟨_, he, hb⟩
    · exact absurd hn ht
    · exact ⟨he, hb⟩

theorem of19 : ofN [49, 50, 51, 52, 53, 54, 55, 56, 57] = 3421780262 := by decide +kernel
theorem on19 : onN (ofN [49, 50, 51, 52]) [53, 54, 55, 56, 57] = 3421780262 := by decide +kernel

theorem tag19 (w : World) (A : Option Addr) (c : Nat) (ht : Tab w) (hA : A ≠ none) (h : Reads w A (([49, 50, 51, 52, 53, 54, 55, 56, 57] : List UInt8).map byteV)) :
    Calls Tryd.prog 15 #[.slice A 9 c] w (Fresh w.heap.size (tagB [49, 50, 51, 52, 53, 54, 55, 56, 57]) w) := cTag_any A 9 c [49, 50, 51, 52, 53, 54, 55, 56, 57] w ht rfl (by simp) h (fun e => absurd e hA)
def Open19 (w : World) (e : Ending) (w' : World) : Prop := ∃ A c, e = .returned (.tuple #[.slice A 9 c, .bool true]) ∧ Row w' 5 w.heap.size A (([49, 50, 51, 52, 53, 54, 55, 56, 57] : List UInt8).map byteV) ∧ Below w.heap.size w w'
theorem open19 (w : World) (A : Option Addr) (c : Nat) (ht : Tab w) (hc : (tagB [49, 50, 51, 52, 53, 54, 55, 56, 57]).length ≤ c) (h : Row w 5 0 A ((tagB [49, 50, 51, 52, 53, 54, 55, 56, 57]).map byteV)) :
    Calls Tryd.prog 9 #[.slice A (tagB [49, 50, 51, 52, 53, 54, 55, 56, 57]).length c] w (Open19 w) :=
  (cOpen_any A _ c (tagB [49, 50, 51, 52, 53, 54, 55, 56, 57]) w ht rfl hc (by rw [tagB_len]; simp) h.reads).mono fun e w' hh => by
    rcases hh with ⟨_, A', c', he, hr, hb⟩ | ⟨hn, _⟩
    · rw [drop_tag] at he hr
      exact ⟨A', c', he, hr, hb⟩
    · exact absurd (isTag_tag _) hn
def OpenNo (w : World) (e : Ending) (w' : World) : Prop := e = .returned (.tuple #[.slice none 0 0, .bool false]) ∧ Below w.heap.size w w'
theorem open3 (w : World) (A : Option Addr) (ht : Tab w) (h : Reads w A (([1, 2, 3] : List UInt8).map byteV)) : Calls Tryd.prog 9 #[.slice A 3 3] w (OpenNo w) :=
  (cOpen_any A 3 3 [1, 2, 3] w ht rfl (by decide) (by simp) h).mono fun e w' hh => by
    rcases hh with ⟨hn, _⟩ | ⟨_, he, hb⟩
    · have h4 := hn.1
      simp at h4
    · exact ⟨he, hb⟩
theorem of19_any (w : World) (A : Option Addr) (ht : Tab w) (h : Reads w A (([49, 50, 51, 52, 53, 54, 55, 56, 57] : List UInt8).map byteV)) : Calls Tryd.prog 11 #[.slice A 9 9] w (SumEnd w 3421780262) := by
  have hc := cOf_any A 9 9 [49, 50, 51, 52, 53, 54, 55, 56, 57] w ht rfl (by simp) h
  rw [of19] at hc
  exact hc
theorem on19_any (w : World) (A : Option Addr) (ht : Tab w) (h : Reads w A (([53, 54, 55, 56, 57] : List UInt8).map byteV)) : Calls Tryd.prog 13 #[.int .u32 (ofN [49, 50, 51, 52] : Int), .slice A 5 5] w (SumEnd w 3421780262) := by
  have hc := cOn_any (ofN [49, 50, 51, 52]) A 5 5 [53, 54, 55, 56, 57] w ht (onN_lt 0 _) rfl (by simp) h
  rw [on19] at hc
  exact hc
theorem of4_any (w : World) (A : Option Addr) (ht : Tab w) (h : Reads w A (([49, 50, 51, 52] : List UInt8).map byteV)) : Calls Tryd.prog 11 #[.slice A 4 4] w (SumEnd w (ofN [49, 50, 51, 52])) := cOf_any A 4 4 [49, 50, 51, 52] w ht rfl (by simp) h

set_option maxRecDepth 100000 in
set_option maxHeartbeats 1000000 in
theorem awake02_any (w : World) (ht : Tab w) : Calls Tryd.prog 8 #[] w fun e w' => e = .returned (.bool true) ∧ Below w.heap.size w w' := by
  have hk := bytes_const
  have HT := Lib.hid ht
  clear ht
  go_enter Tryd.func8, Tryd.ntmps8
  go_wp2_with (first
    | (go_at_call 15; (with_reducible refine (tag19 _ _ _ ?_ ?_ ?_).mono ?_); (exact HT.out.alloc _); (simp); (exact lit_reads _ _ _ _ rfl); rintro e w1 ⟨A1, c1, rfl, g1, _, h1, h2⟩; have R1 := Lib.hid (h1.low (Nat.zero_le _)); have B1 := Lib.hid (below_step ((Below.refl _ w).alloc (Nat.le_refl _) _) h2); clear h1 h2)
    | (go_at_call 9; (with_reducible refine (open3 _ _ ?_ ?_).mono ?_); (exact (HT.out.below B2.out).alloc _); (exact lit_reads _ _ _ _ rfl); rintro e w3 ⟨rfl, h2⟩; have R3 := Lib.hid (((R2.out).alloc _).below h2); have B3 := Lib.hid (below_step (B2.out.alloc B2.out.size _) h2); clear h2)
    | (go_at_call 9; (with_reducible refine (open19 _ A1 c1 (HT.out.below B1.out) g1 R1.out).mono ?_); rintro e w2 ⟨A2, c2, rfl, h1, h2⟩; have R2 := Lib.hid h1; have B2 := Lib.hid (below_step B1.out h2); clear h1 h2)
    | (go_at_call 11; (with_reducible refine (of19_any _ _ ?_ ?_).mono ?_); (exact (HT.out.below B3.out).alloc _); (exact lit_reads _ _ _ _ rfl); rintro e w4 ⟨rfl, h2⟩; have R4 := Lib.hid (((R3.out).alloc _).below h2); have B4 := Lib.hid (below_step (B3.out.alloc B3.out.size _) h2); clear h2)
    | (go_at_call 11; (with_reducible refine (of4_any _ _ ?_ ?_).mono ?_); (exact (HT.out.below B4.out).alloc _); (exact lit_reads _ _ _ _ rfl); rintro e w5 ⟨rfl, h2⟩; have R5 := Lib.hid (((R4.out).alloc _).below h2); have B5 := Lib.hid (below_step (B4.out.alloc B4.out.size _) h2); clear h2)
    | (go_at_call 13; (with_reducible refine (on19_any _ _ ?_ ?_).mono ?_); (exact (HT.out.below B5.out).alloc _); (exact lit_reads _ _ _ _ rfl); rintro e w6 ⟨rfl, h2⟩; have hv := str_row (n := 9) (c := c2) rfl (((R5.out).alloc _).below h2); have B6 := Lib.hid (below_step (B5.out.alloc B5.out.size _) h2); clear h2))
  go_ret
  exact ⟨rfl, B6.out⟩

end Go.Proofs.YthpmkpagjbkcjaaDoor
