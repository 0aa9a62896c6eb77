/- The first step of the laws of layer 2 (the document's example): it answers true, and turns nothing that was there. -/
import Derived.Test.YtlehajpadiiicaaDoorCrcc
import Derived.Lib.SlBytesConst
namespace Go.Proofs.YtlehajpadiiicaaDoor
open Go.RowKit
set_option linter.unusedVariables false

/-- A literal of bytes, or of a constant text. -/
theorem lit_reads (w : World) (l : List UInt8) (fr : Nat × Nat) (cs : Array Value) (h : cs = (l.map byteV).toArray) : Reads (w.alloc (.cells cs 5 fr)) (some ⟨w.heap.size, 0, none⟩) (l.map byteV) := fun _ =>
  ⟨w.heap.size, 0, rfl, fun j u hj => by
    subst h
    rw [World.cell?_alloc_mark]
    simpa using hj⟩
theorem bytes_const (w : World) (C : Array Value) (n c : Nat) : (convert 25 25 (.slice (some ⟨w.heap.size, 0, none⟩) n c)).run Tryd.prog (w.alloc (.cells C 5)) = .ok (.slice (some ⟨w.heap.size, 0, none⟩) n c) (w.alloc (.cells C 5 (C.size, C.size + 1))) :=
  Lib.run_convert_bytes_const (P := Tryd.prog) w 25 5 C n c Tryd.underlying25 Tryd.underlying5

theorem isTag_tag (l : List UInt8) : isTag (tagB l) := by
  have e : (tagB l).drop 4 = l := by
    unfold tagB
    have := List.drop_left (l₁ := numB (ofN l) 4) (l₂ := l)
    rwa [numB_len] at this
  exact ⟨by rw [tagB_len]; omega, by rw [e]⟩
theorem drop_tag (l : List UInt8) : (tagB l).drop 4 = l := by
  unfold tagB
  have := List.drop_left (l₁ := numB (ofN l) 4) (l₂ := l)
  rwa [numB_len] at this

/-- What Open answers to what is tagged. -/
def TagEnd (w : World) (l : List UInt8) (e : Ending) (w' : World) : Prop := ∃ A c, e = .returned (.tuple #[.slice A l.length c, .bool true]) ∧ Row w' 5 w.heap.size A (l.map byteV) ∧ Below w.heap.size w w'
theorem open_tag (l : List UInt8) (w : World) (A : Option Addr) (c lo : Nat) (ht : Tab w) (hc : (tagB l).length ≤ c) (hl : l.length ≤ 900000) (h : Row w 5 lo A ((tagB l).map byteV)) :
    Calls Tryd.prog 22 #[.slice A (tagB l).length c] w (TagEnd w l) :=
  (cOpen_any A _ c (tagB l) w ht rfl hc (by rw [tagB_len]; omega) h.reads).mono fun e w' hh => by
    rcases hh with ⟨_, A', c', he, hr, hb⟩ | ⟨hn, _⟩
    · rw [drop_tag] at he hr
      exact ⟨A', c', he, hr, hb⟩
    · exact absurd (isTag_tag _) hn
/-- Any other slice is not opened. -/
theorem open_no (l : List UInt8) (w : World) (A : Option Addr) (n c : Nat) (htab : Tab w) (hn : n = l.length) (hc : n ≤ c) (hl : l.length ≤ 1000000) (ht : ¬ isTag l) (h : Reads w A (l.map byteV)) :
    Calls Tryd.prog 22 #[.slice A n c] w fun e w' => e = .returned (.tuple #[.slice none 0 0, .bool false]) ∧ Below w.heap.size w w' :=
  (cOpen_any A n c l w htab hn hc hl h).mono fun e w' hh => by
    rcases hh with ⟨hn, _⟩ | ⟨_, he, hb⟩
    · exact absurd hn ht
    · exact ⟨he, hb⟩

end Go.Proofs.YtlehajpadiiicaaDoor
