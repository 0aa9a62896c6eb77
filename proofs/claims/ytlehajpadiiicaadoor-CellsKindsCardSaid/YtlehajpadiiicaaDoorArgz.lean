/- Slices of slices of bytes that came in, as the walks are told of them: no statement. -/
import Derived.Test.YtlehajpadiiicaaDoorArgs
import Derived.Test.YtlehajpadiiicaaDoorCea
import Derived.Deep.Slices
import Derived.SliceStrings
namespace Go.Proofs.YtlehajpadiiicaaDoor
open Go.ChangeShapes Go.WideShapes Go.ChangeAt Go.RowKit Go.Deep
set_option linter.unusedVariables false

theorem arg_bytes_v {H : Type} {enc : TypeId × Value → H} {W : World} {fuel : Nat} {v : Value} {x : DataW H × List MemPlace} (h : DataW.trod enc Tryd.prog W 0 (fun _ => true) true fuel 25 [v] = some x) :
    ∃ (A : Option Addr) (n c : Nat) (l : List UInt8), v = .slice A n c ∧ Arg W A n c l := by
  rcases open_ints Tryd.underlying25 Tryd.underlying5 (by kernel_rfl) h with ⟨hcs, _⟩ | ⟨x, len, cap, zs, hcs, _, hl, hm, hz, hx, hcell, hwz⟩
  · simp at hcs
    exact ⟨none, 0, 0, [], hcs, rfl, Reads.empty, fun _ a ha => (by cases ha), Nat.le_refl _, Nat.zero_le _, fun _ => rfl⟩
  · simp at hcs
    have hz' : zs.length = cap := by simpa using hz
    obtain ⟨bs, hbl, hbm⟩ := bytes_of zs hwz
    have hat : ∀ i, i < zs.length → W.cell? (x.add i) = (zs.map (Value.int .u8))[i]? := fun i hi => by
      rw [hcell i hi]
      simp [hi]
    by_cases hc0 : cap = 0
    · have hn : len = 0 := by omega
      exact ⟨some x, len, cap, [], hcs, hn, Reads.empty, fun h => absurd h (by omega), hl, hm, fun h => by cases h⟩
    · obtain ⟨b, off, spot⟩ := x
      have hspot : spot = none := by
        have := hcell 0 (by omega)
        simpa [Addr.add] using World.cell?_spot this
      subst hspot
      have hblk : b < W.heap.size := by
        have := hcell 0 (by omega)
        exact World.block_lt_of_cell? W _ (by simpa [Addr.add] using this)
      refine ⟨_, len, cap, bs.take len, hcs, by simp; omega, fun hx => ⟨b, off, rfl, fun j u hj => ?_⟩, fun _ a ha => (by injection ha with ha; subst ha; exact hblk), hl, hm, fun h => by cases h⟩
      have hjn : j < len := by
        have := (List.getElem?_eq_some_iff.1 hj).1
        simp at this
        omega
      have h2 := hat j (by omega)
      rw [add_plain] at h2
      rw [h2, hbm]
      rw [List.map_take, List.getElem?_take, if_pos hjn] at hj
      exact hj

theorem arg_cells {H : Type} {enc : TypeId × Value → H} {W : World} {A : Option Addr} {n c : Nat} {d : DataW H} {p : List MemPlace} (h : DataW.Trod enc Tryd.prog W 0 (fun _ => true) true 22 (.slice A n c) d p) :
    ∃ q : List Hd, CellsA W A n c q := by
  obtain ⟨fuel, hf⟩ := h
  rcases open_slice Tryd.underlying22 hf with ⟨hcs, _⟩ | ⟨x, l, c', m, fu, D, Pl, hcs, _, hl, hm, hmm, _, hx⟩
  · simp [Value.cells] at hcs
    obtain ⟨rfl, rfl, rfl⟩ := hcs
    exact ⟨[], CellsA.none_ W⟩
  · simp [Value.cells] at hcs
    obtain ⟨rfl, rfl, rfl⟩ := hcs
    have hmn : n ≤ m := by rw [hmm]; split <;> omega
    have ce : Tryd.prog.cellsOf 25 = 1 := by kernel_rfl
    have each : ∀ i, i < n → ∃ q : Hd, W.cell? (x.add i) = some q.v ∧ Arg W q.a q.n q.c q.l := fun i hin => by
      obtain ⟨cs', h1, h2⟩ := hx i (by omega)
      rw [ce] at h1
      obtain ⟨_, hlen, hcell⟩ := World.cells?_some h1
      match cs', hlen with
      | [v0], _ =>
        obtain ⟨A', n', c', l', rfl, hA⟩ := arg_bytes_v h2
        have e0 := hcell 0 (by omega)
        refine ⟨⟨A', n', c', l'⟩, ?_, hA⟩
        rw [Nat.mul_one, add_add] at e0
        simpa [Hd.v] using e0
    obtain ⟨q, hq⟩ := @choose_lt _ ⟨⟨none, 0, 0, []⟩⟩ _ _ each
    refine ⟨(List.range n).map q, by simp, fun hn => ?_, fun y hy => ?_, hl, hm, fun h => by cases h⟩
    · have hn0 : 0 < n := by simpa using hn
      obtain ⟨b, off, spot⟩ := x
      have h00 := (hq 0 hn0).1
      have hspot : spot = none := by simpa [Addr.add] using World.cell?_spot h00
      subst hspot
      refine ⟨b, off, rfl, fun i u hi => ?_⟩
      have hin : i < n := by
        have := (List.getElem?_eq_some_iff.1 hi).1
        simpa using this
      have h1 := (hq i hin).1
      rw [add_plain] at h1
      rw [h1, ← hi]
      simp [hin]
    · obtain ⟨i, hi, rfl⟩ := List.mem_map.1 hy
      exact (hq i (List.mem_range.1 hi)).2

end Go.Proofs.YtlehajpadiiicaaDoor
