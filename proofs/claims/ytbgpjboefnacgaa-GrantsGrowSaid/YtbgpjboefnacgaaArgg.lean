/- Slices of grants that came in, as the walks are told of them: no statement. -/
import Derived.Test.YtbgpjboefnacgaaArgs
import Derived.Test.YtbgpjboefnacgaaGrp
import Derived.Deep.Slices
namespace Go.Proofs.Ytbgpjboefnacgaa
open Go.ChangeShapes Go.WideShapes Go.ChangeAt Go.RowKit Go.Deep
set_option linter.unusedVariables false

theorem arg_grants {H : Type} {enc : TypeId × Value → H} {W : World} {A : Option Addr} {n c : Nat} {d : DataW H} {p : List MemPlace} (h : DataW.Trod enc Try.prog W 0 (fun _ => true) true 23 (.slice A n c) d p) :
    ∃ l : List G, ArgG W A n c l := by
  obtain ⟨fuel, hf⟩ := h
  rcases open_slice Try.underlying23 hf with ⟨hcs, _⟩ | ⟨x, l, c', m, fu, D, Pl, hcs, _, hl, hm, hmm, _, hx⟩
  · simp [Value.cells] at hcs
    obtain ⟨rfl, rfl, rfl⟩ := hcs
    exact ⟨[], argG_nil W⟩
  · simp [Value.cells] at hcs
    obtain ⟨rfl, rfl, rfl⟩ := hcs
    have hmn : n ≤ m := by rw [hmm]; split <;> omega
    have ce : Try.prog.cellsOf 29 = 3 := by kernel_rfl
    have c1 : Try.prog.cellsOf 3 = 1 := by kernel_rfl
    have each : ∀ i, i < n → ∃ q : Int × Int × Int, W.cell? (x.add (i * 3)) = some (.int .i64 q.1) ∧ W.cell? (x.add (i * 3 + 1)) = some (.int .i64 q.2.1) ∧ W.cell? (x.add (i * 3 + 2)) = some (.int .i64 q.2.2) := fun i hin => by
      obtain ⟨cs', h1, h2⟩ := hx i (by omega)
      rw [ce] at h1
      obtain ⟨_, hlen, hcell⟩ := World.cells?_some h1
      obtain ⟨xs, k, hk, hxy, _, hxl, hg⟩ := DataW.trod_struct Try.underlying29 h2
      match xs, hxl, cs', hlen with
      | [y0, y1, y2], _, [v0, v1, v2], _ =>
        have g0 := hg 0 _ rfl
        have g1 := hg 1 _ rfl
        have g2 := hg 2 _ rfl
        simp [c1] at g0 g1 g2
        obtain ⟨k0, hk0, _, _⟩ := DataW.trod_int Try.underlying3 g0
        obtain ⟨k1, hk1, _, _⟩ := DataW.trod_int Try.underlying3 g1
        obtain ⟨k2, hk2, _, _⟩ := DataW.trod_int Try.underlying3 g2
        simp at hk0 hk1 hk2
        subst hk0 hk1 hk2
        have e0 := hcell 0 (by omega)
        have e1 := hcell 1 (by omega)
        have e2 := hcell 2 (by omega)
        rw [add_add] at e0 e1 e2
        exact ⟨(k0, k1, k2), by simpa using e0, by simpa using e1, by simpa using e2⟩
    obtain ⟨q0, hq0⟩ := choose_lt each
    obtain ⟨q, hqe⟩ : ∃ q : Nat → G, q = fun i => ⟨(q0 i).1, (q0 i).2.1, (q0 i).2.2⟩ := ⟨_, rfl⟩
    have hq : ∀ i, i < n → W.cell? (x.add (i * 3)) = some (.int .i64 (q i).a) ∧ W.cell? (x.add (i * 3 + 1)) = some (.int .i64 (q i).f) ∧ W.cell? (x.add (i * 3 + 2)) = some (.int .i64 (q i).t) := by rw [hqe]; exact hq0
    clear hq0 hqe
    refine ⟨(List.range n).map q, by simp, fun hn => ?_, fun hn a ha => ?_, hl, hm⟩
    · have hn0 : 0 < n := by rw [cellsG_len] at hn; simp at hn; exact hn
      obtain ⟨b, off, spot⟩ := x
      have h00 := (hq 0 hn0).1
      have hspot : spot = none := by simpa [Addr.add] using World.cell?_spot h00
      subst hspot
      refine ⟨b, off, rfl, fun j u hj => ?_⟩
      have hjl := (List.getElem?_eq_some_iff.1 hj).1
      rw [cellsG_len] at hjl
      simp at hjl
      have hi : j / 3 < n := by omega
      have hli : j / 3 < ((List.range n).map q).length := by simpa using hi
      obtain ⟨z0, z1, z2⟩ := cellsG_at ((List.range n).map q) (j / 3) hli
      have hqi := hq (j / 3) hi
      simp only [List.getElem_map, List.getElem_range] at z0 z1 z2
      rw [add_plain, add_plain, add_plain] at hqi
      have hcase : j = 3 * (j / 3) ∨ j = 3 * (j / 3) + 1 ∨ j = 3 * (j / 3) + 2 := by omega
      rcases hcase with e | e | e
      · rw [e, z0] at hj
        injection hj with hj
        have := hqi.1
        rw [← hj, show off + j = off + j / 3 * 3 by omega]
        exact this
      · rw [e, z1] at hj
        injection hj with hj
        have := hqi.2.1
        rw [← hj, show off + j = off + (j / 3 * 3 + 1) by omega]
        exact this
      · rw [e, z2] at hj
        injection hj with hj
        have := hqi.2.2
        rw [← hj, show off + j = off + (j / 3 * 3 + 2) by omega]
        exact this
    · injection ha with ha
      subst ha
      have h0 := (hq 0 hn).1
      exact World.block_lt_of_cell? W _ (by simpa [Addr.add] using h0)

end Go.Proofs.Ytbgpjboefnacgaa
