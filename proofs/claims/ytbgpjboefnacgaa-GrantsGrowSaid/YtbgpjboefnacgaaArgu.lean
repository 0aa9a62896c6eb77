/- Slices of numbers of 64 bits that came in, as the walks are told of them: no statement. -/
import Derived.Test.YtbgpjboefnacgaaArgs
import Derived.Test.YtbgpjboefnacgaaLatr
namespace Go.Proofs.Ytbgpjboefnacgaa
open Go.ChangeShapes Go.WideShapes Go.ChangeAt Go.RowKit Go.Deep
set_option linter.unusedVariables false

theorem arg_u64s {H : Type} {enc : TypeId × Value → H} {W : World} {A : Option Addr} {n c : Nat} {d : DataW H} {p : List MemPlace} (h : DataW.Trod enc Try.prog W 0 (fun _ => true) true 22 (.slice A n c) d p) :
    ∃ l : List Nat, ArgU W A n c l := by
  obtain ⟨fuel, hf⟩ := h
  rcases open_ints Try.underlying22 Try.underlying24 (by kernel_rfl) hf with ⟨hcs, _⟩ | ⟨x, l, c', zs, hcs, _, hl, hm, hz, hx, hcell, hwz⟩
  · simp [Value.cells] at hcs
    obtain ⟨rfl, rfl, rfl⟩ := hcs
    exact ⟨[], rfl, Reads.empty, fun _ a ha => (by cases ha), Nat.le_refl _, Nat.zero_le _, fun x hx => by cases hx⟩
  · simp [Value.cells] at hcs
    obtain ⟨rfl, rfl, rfl⟩ := hcs
    have hz' : zs.length = c := by simpa using hz
    have hb : ∀ i (h : i < zs.length), 0 ≤ zs[i] ∧ zs[i] ≤ 18446744073709551615 := fun i h => u64_bounds (hwz _ (List.getElem_mem h))
    have hold : 0 < n → ∀ a, some x = some a → a.block < W.heap.size := fun hn a ha => by
      injection ha with ha
      subst ha
      have h0 := hcell 0 (by omega)
      exact World.block_lt_of_cell? W _ (by simpa [Addr.add] using h0)
    refine ⟨(zs.take n).map Int.toNat, by simp; omega, fun hn => ?_, hold, hl, hm, ?_⟩
    · have hn0 : 0 < n := by simp at hn; omega
      obtain ⟨b, off, spot⟩ := x
      have h0 := hcell 0 (by omega)
      have hspot : spot = none := by simpa [Addr.add] using World.cell?_spot h0
      subst hspot
      refine ⟨b, off, rfl, fun i y hy => ?_⟩
      have hin : i < n := by
        have := (List.getElem?_eq_some_iff.1 hy).1
        simp at this
        omega
      have hiz : i < zs.length := by omega
      have h2 := hcell i hiz
      have hbi := hb i hiz
      rw [add_plain] at h2
      rw [h2]
      simp [hin, List.getElem?_eq_getElem hiz] at hy ⊢
      rw [← hy]
      unfold u64V
      congr 1
      omega
    · intro y hy
      obtain ⟨q, hq, rfl⟩ := List.mem_map.1 hy
      have := u64_bounds (hwz q (List.mem_of_mem_take hq))
      omega

end Go.Proofs.Ytbgpjboefnacgaa
