/- Slices of steps of layer 6 that came in, as the walks are told of them: no statement. -/
import Derived.Test.YthbchloghbfnmaaArgs
import Derived.Test.YthbchloghbfnmaaDls
import Derived.Deep.Slices
import Derived.SliceStrings
namespace Go.Proofs.Ythbchloghbfnmaa
open Go.ChangeShapes Go.WideShapes Go.ChangeAt Go.RowKit Go.Deep
set_option linter.unusedVariables false

theorem i64_bounds {n : Int} (h : (Lit.int .i64 n).wf = true) : -9223372036854775808 ≤ n ∧ n ≤ 9223372036854775807 := by
  simp [Lit.wf, IntKind.min, IntKind.max, IntKind.signed, IntKind.bits] at h
  omega
/-- A slice of texts that came in. -/
theorem arg_texts {H : Type} {enc : TypeId × Value → H} {W : World} {fuel : Nat} {v : Value} {x : DataW H × List MemPlace} (h : DataW.trod enc Try.prog W 0 (fun _ => true) true fuel 33 [v] = some x) :
    ∃ (A : Option Addr) (n c : Nat) (ks : List (List UInt8)), v = .slice A n c ∧ n ≤ c ∧ c ≤ maxLen ∧ n = ks.length ∧ Reads W A (ks.map txtV) ∧ (∀ s ∈ ks, s.length ≤ 9223372036854775807) ∧ (0 < n → ∀ a, A = some a → a.block < W.heap.size) := by
  rcases open_strings Try.underlying33 Try.underlying9 (by kernel_rfl) h with ⟨hcs, _⟩ | ⟨a, len, cap, ss, hcs, _, hl, hm, hz, _, hcell, hs⟩
  · simp at hcs
    exact ⟨none, 0, 0, [], hcs, Nat.le_refl _, Nat.zero_le _, rfl, Reads.empty, (fun s hs => absurd hs (by simp)), fun h => absurd h (Nat.lt_irrefl 0)⟩
  · simp at hcs
    have hz' : ss.length = cap := by simpa using hz
    have hold : 0 < len → ∀ a', some a = some a' → a'.block < W.heap.size := fun hn a' ha => by
      injection ha with ha
      subst ha
      have h0 := hcell 0 (by omega)
      exact World.block_lt_of_cell? W _ (by simpa [Addr.add] using h0)
    refine ⟨some a, len, cap, (ss.take len).map (fun s => s.data.toList), hcs, hl, hm, by simp; omega, fun hx => ?_, fun s hs' => ?_, hold⟩
    · simp at hx
      obtain ⟨b, off, spot⟩ := a
      have h0 := hcell 0 (by omega)
      have hspot : spot = none := by simpa [Addr.add] using World.cell?_spot h0
      subst hspot
      refine ⟨b, off, rfl, fun j u hj => ?_⟩
      have hjl := (List.getElem?_eq_some_iff.1 hj).1
      simp only [List.length_map, List.length_take] at hjl
      have hjn : j < ss.length := by omega
      have hjt : j < len := by omega
      have h2 := hcell j hjn
      rw [add_plain] at h2
      rw [h2, ← hj, List.map_map, List.getElem?_map, List.getElem?_take, if_pos hjt, List.getElem?_eq_getElem hjn]
      simp [txtV, List.getD, hjn]
    · obtain ⟨q, hq, rfl⟩ := List.mem_map.1 hs'
      have := hs q (List.mem_of_mem_take hq)
      unfold maxLen ByteArray.size at this
      rw [Array.length_toList]
      omega

theorem arg_steps6 {H : Type} {enc : TypeId × Value → H} {W : World} {A : Option Addr} {n c : Nat} {d : DataW H} {p : List MemPlace} (h : DataW.Trod enc Try.prog W 0 (fun _ => true) true 23 (.slice A n c) d p) :
    ∃ l : List Sx, StepsA W A n l ∧ n ≤ 9223372036854775807 := by
  obtain ⟨fuel, hf⟩ := h
  rcases open_slice Try.underlying23 hf with ⟨hcs, _⟩ | ⟨x, l, c', m, fu, D, Pl, hcs, _, hl, hm, hmm, _, hx⟩
  · simp [Value.cells] at hcs
    obtain ⟨rfl, rfl, rfl⟩ := hcs
    exact ⟨[], ⟨rfl, fun h => absurd h (Nat.lt_irrefl 0), fun x hx => by cases hx⟩, by omega⟩
  · simp [Value.cells] at hcs
    obtain ⟨rfl, rfl, rfl⟩ := hcs
    have hmn : n ≤ m := by rw [hmm]; split <;> omega
    have hnm : n ≤ 9223372036854775807 := by
      have : c ≤ 9223372036854775807 := by simpa [maxLen] using hm
      omega
    have ce : Try.prog.cellsOf 35 = 6 := by kernel_rfl
    have c1 : Try.prog.cellsOf 3 = 1 := by kernel_rfl
    have c2 : Try.prog.cellsOf 5 = 1 := by kernel_rfl
    have c3 : Try.prog.cellsOf 4 = 1 := by kernel_rfl
    have c4 : Try.prog.cellsOf 33 = 1 := by kernel_rfl
    have each : ∀ i, i < n → ∃ q : Sx, (W.cell? (x.add (i * 6)) = some (.int .i64 q.s.kind) ∧ W.cell? (x.add (i * 6 + 1)) = some (.int .i64 q.s.region) ∧ W.cell? (x.add (i * 6 + 2)) = some (.int .i64 q.s.page) ∧
        W.cell? (x.add (i * 6 + 3)) = some (.int .u8 (q.s.fill.toNat : Int)) ∧ W.cell? (x.add (i * 6 + 4)) = some (.bool q.s.short) ∧ W.cell? (x.add (i * 6 + 5)) = some (.slice q.ka q.kn q.kc)) ∧
        q.kn ≤ q.kc ∧ q.kc ≤ maxLen ∧ q.s.page ≤ 9223372036854775807 ∧ q.kn = q.s.keep.length ∧ Reads W q.ka (q.s.keep.map txtV) ∧ (∀ s ∈ q.s.keep, s.length ≤ 9223372036854775807) ∧ (0 < q.kn → ∀ a, q.ka = some a → a.block < W.heap.size) := fun i hin => by
      obtain ⟨cs', h1, h2⟩ := hx i (by omega)
      rw [ce] at h1
      obtain ⟨_, hlen, hcell⟩ := World.cells?_some h1
      obtain ⟨xs, k, hk, hxy, _, hxl, hg⟩ := DataW.trod_struct Try.underlying35 h2
      match xs, hxl, cs', hlen with
      | [y0, y1, y2, y3, y4, y5], _, [v0, v1, v2, v3, v4, v5], _ =>
        have g0 := hg 0 _ rfl
        have g1 := hg 1 _ rfl
        have g2 := hg 2 _ rfl
        have g3 := hg 3 _ rfl
        have g4 := hg 4 _ rfl
        have g5 := hg 5 _ rfl
        simp [c1, c2, c3, c4] at g0 g1 g2 g3 g4 g5
        obtain ⟨k0, hk0, _, _⟩ := DataW.trod_int Try.underlying3 g0
        obtain ⟨k1, hk1, _, _⟩ := DataW.trod_int Try.underlying3 g1
        obtain ⟨k2, hk2, _, hw2⟩ := DataW.trod_int Try.underlying3 g2
        obtain ⟨k3, hk3, _, hw3⟩ := DataW.trod_int Try.underlying5 g3
        obtain ⟨k4, hk4, _⟩ := DataW.trod_bool Try.underlying4 g4
        obtain ⟨kA, kn, kc, ks, hk5, t1, t2, t3, t4, t5, t6⟩ := arg_texts g5
        simp at hk0 hk1 hk2 hk3 hk4
        subst hk0 hk1 hk2 hk3 hk4 hk5
        have b3 := u8_bounds hw3
        obtain ⟨f, rfl⟩ : ∃ f : UInt8, k3 = (f.toNat : Int) := ⟨UInt8.ofNat k3.toNat, by simp; omega⟩
        have b2 : k2 ≤ 9223372036854775807 := (i64_bounds hw2).2
        have e0 := hcell 0 (by omega)
        have e1 := hcell 1 (by omega)
        have e2 := hcell 2 (by omega)
        have e3 := hcell 3 (by omega)
        have e4 := hcell 4 (by omega)
        have e5 := hcell 5 (by omega)
        rw [add_add] at e0 e1 e2 e3 e4 e5
        exact ⟨⟨⟨k0, k1, k2, f, k4, ks⟩, kA, kn, kc⟩, ⟨by simpa using e0, by simpa using e1, by simpa using e2, by simpa using e3, by simpa using e4, by simpa using e5⟩, t1, t2, b2, t3, t4, t5, t6⟩
    obtain ⟨q, hq⟩ := @choose_lt _ ⟨⟨⟨0, 0, 0, 0, false, []⟩, none, 0, 0⟩⟩ _ _ each
    refine ⟨(List.range n).map q, ⟨by simp, fun hn => ?_, fun y hy => ?_⟩, hnm⟩
    · obtain ⟨b, off, spot⟩ := x
      have h00 := (hq 0 hn).1.1
      have hspot : spot = none := by simpa [Addr.add] using World.cell?_spot h00
      subst hspot
      refine ⟨b, off, rfl, World.block_lt_of_cell? W _ (by simpa [Addr.add] using h00), fun i y hy => ?_⟩
      have hin : i < n := by
        have := (List.getElem?_eq_some_iff.1 hy).1
        simpa using this
      simp [hin] at hy
      subst hy
      obtain ⟨z0, z1, z2, z3, z4, z5⟩ := (hq i hin).1
      rw [add_plain] at z0 z1 z2 z3 z4 z5
      rw [← Nat.add_assoc] at z1 z2 z3 z4 z5
      exact ⟨z0, z1, z2, z3, z4, z5⟩
    · obtain ⟨i, hi, rfl⟩ := List.mem_map.1 hy
      exact (hq i (List.mem_range.1 hi)).2

end Go.Proofs.Ythbchloghbfnmaa
