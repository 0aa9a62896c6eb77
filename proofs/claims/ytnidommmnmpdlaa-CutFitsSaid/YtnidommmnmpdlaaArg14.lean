/- Rows of ints that came in to the laws of layer 14, as the walks are told of them: no statement. -/
import Derived.Test.YtnidommmnmpdlaaArgs
import Derived.Test.YtnidommmnmpdlaaZrw
import Derived.Deep.Slices
import Derived.SliceStrings
import Derived.ProofKit
import Derived.OpenShut
import Derived.ShutString
import Derived.ChangeOld
namespace Go.Proofs.Ytnidommmnmpdlaa
open Go.ChangeShapes Go.WideShapes Go.ChangeAt Go.RowKit Go.Deep
set_option linter.unusedVariables false

set_option maxRecDepth 100000 in
theorem arg_rowz14 {H : Type} {enc : TypeId × Value → H} {W : World} {A : Option Addr} {n c : Nat} {d : DataW H} {p : List MemPlace} (h : DataW.Trod enc Try.prog W 0 (fun _ => true) true 22 (.slice A n c) d p) :
    ∃ l : List Int, RowZ W A n c l := by
  obtain ⟨fuel, hf⟩ := h
  rcases open_ints Try.underlying22 Try.underlying3 (by kernel_rfl) hf with ⟨hcs, _⟩ | ⟨x, l, c', zs, hcs, _, hl, hm, hz, hx, hcell, hwz⟩
  · simp [Value.cells] at hcs
    obtain ⟨rfl, rfl, rfl⟩ := hcs
    exact ⟨[], RowZ.none_ W⟩
  · simp [Value.cells] at hcs
    obtain ⟨rfl, rfl, rfl⟩ := hcs
    have hz' : zs.length = c := by simpa using hz
    refine ⟨zs.take n, ⟨by simp; omega, fun hn => ?_, fun e => (by cases e), hl, hm⟩⟩
    have hn0 : 0 < n := by simp at hn; omega
    obtain ⟨b, off, spot⟩ := x
    have h0 := hcell 0 (by omega)
    have hspot : spot = none := by simpa [Addr.add] using World.cell?_spot h0
    subst hspot
    refine ⟨b, off, rfl, fun i y hy => ?_⟩
    have hin : i < n := by
      have := (List.getElem?_eq_some_iff.1 hy).1
      simp at this
      omega
    have hiz : i < zs.length := by omega
    have h2 := hcell i hiz
    rw [add_plain] at h2
    rw [h2]
    simp [hin, List.getElem?_eq_getElem hiz] at hy ⊢
    exact hy
theorem base_any (W : World) : True := trivial
end Go.Proofs.Ytnidommmnmpdlaa
