import Derived.Test.YtglkmpglpddfdaaGreatDoorJ13
import Derived.Test.YtglkmpglpddfdaaGreatDoorJLatr
import Derived.Test.YtglkmpglpddfdaaGreatDoorJCof
import Derived.Deep.Slices
import Derived.SliceStrings
import Derived.SizedLaws
/- Of a claim's texts, joined: Argu Argc. No statement but in the last. -/
section
namespace Go.Proofs.YtglkmpglpddfdaaGreatDoor
open Go.ChangeShapes Go.WideShapes Go.ChangeAt Go.RowKit Go.Deep
set_option linter.unusedVariables false

theorem arg_u64s {H : Type} {enc : TypeId × Value → H} {W : World} {A : Option Addr} {n c : Nat} {d : DataW H} {p : List MemPlace} (h : DataW.Trod enc Tryz.prog W 0 (fun _ => true) true 24 (.slice A n c) d p) :
    ∃ l : List Nat, ArgU W A n c l := by
  obtain ⟨fuel, hf⟩ := h
  rcases open_ints Tryz.underlying24 Tryz.underlying37 (by kernel_rfl) hf with ⟨hcs, _⟩ | ⟨x, l, c', zs, hcs, _, hl, hm, hz, hx, hcell, hwz⟩
  · simp [Value.cells] at hcs
    obtain ⟨rfl, rfl, rfl⟩ := hcs
    exact ⟨[], rfl, Reads.empty, fun _ a ha => (by cases ha), Nat.le_refl _, Nat.zero_le _, fun x hx => by cases hx⟩
  · simp [Value.cells] at hcs
    obtain ⟨rfl, rfl, rfl⟩ := hcs
    have hz' : zs.length = c := by simpa using hz
    have hb : ∀ i (h : i < zs.length), 0 ≤ zs[i] ∧ zs[i] ≤ 18446744073709551615 := fun i h => u64_bounds (hwz _ (List.getElem_mem h))
    have hold : 0 < n → ∀ a, some x = some a → a.block < W.heap.size := fun hn a ha => by
      injection ha with ha
      subst ha
      have h0 := hcell 0 (by omega)
      exact World.block_lt_of_cell? W _ (by simpa [Addr.add] using h0)
    refine ⟨(zs.take n).map Int.toNat, by simp; omega, fun hn => ?_, hold, hl, hm, ?_⟩
    · have hn0 : 0 < n := by simp at hn; omega
      obtain ⟨b, off, spot⟩ := x
      have h0 := hcell 0 (by omega)
      have hspot : spot = none := by simpa [Addr.add] using World.cell?_spot h0
      subst hspot
      refine ⟨b, off, rfl, fun i y hy => ?_⟩
      have hin : i < n := by
        have := (List.getElem?_eq_some_iff.1 hy).1
        simp at this
        omega
      have hiz : i < zs.length := by omega
      have h2 := hcell i hiz
      have hbi := hb i hiz
      rw [add_plain] at h2
      rw [h2]
      simp [hin, List.getElem?_eq_getElem hiz] at hy ⊢
      rw [← hy]
      unfold u64V
      congr 1
      omega
    · intro y hy
      obtain ⟨q, hq, rfl⟩ := List.mem_map.1 hy
      have := u64_bounds (hwz q (List.mem_of_mem_take hq))
      omega

end Go.Proofs.YtglkmpglpddfdaaGreatDoor
end

section
namespace Go.Proofs.YtglkmpglpddfdaaGreatDoor
open Go.ChangeShapes Go.WideShapes Go.ChangeAt Go.RowKit Go.Deep
set_option linter.unusedVariables false

set_option maxRecDepth 100000 in
set_option maxHeartbeats 1000000 in
theorem arg_grants5 {H : Type} {enc : TypeId × Value → H} {W : World} {A : Option Addr} {n c : Nat} {d : DataW H} {p : List MemPlace} (h : DataW.Trod enc Tryz.prog W 0 (fun _ => true) true 26 (.slice A n c) d p) :
    ∃ l : List G, ArgG W A n c l := by
  obtain ⟨fuel, hf⟩ := h
  rcases open_slice Tryz.underlying26 hf with ⟨hcs, _⟩ | ⟨x, l, c', m, fu, D, Pl, hcs, _, hl, hm, hmm, _, hx⟩
  · simp [Value.cells] at hcs
    obtain ⟨rfl, rfl, rfl⟩ := hcs
    exact ⟨[], rfl, Reads.empty, fun h => absurd h (Nat.lt_irrefl 0), Nat.le_refl _, Nat.zero_le _⟩
  · simp [Value.cells] at hcs
    obtain ⟨rfl, rfl, rfl⟩ := hcs
    have hmn : n ≤ m := by rw [hmm]; split <;> omega
    have ce : Tryz.prog.cellsOf 45 = 3 := by kernel_rfl
    have c1 : Tryz.prog.cellsOf 3 = 1 := by kernel_rfl
    have each : ∀ i, i < n → ∃ q : Int × Int × Int, W.cell? (x.add (i * 3)) = some (.int .i64 q.1) ∧ W.cell? (x.add (i * 3 + 1)) = some (.int .i64 q.2.1) ∧ W.cell? (x.add (i * 3 + 2)) = some (.int .i64 q.2.2) := fun i hin => by
      obtain ⟨cs', h1, h2⟩ := hx i (by omega)
      rw [ce] at h1
      obtain ⟨_, hlen, hcell⟩ := World.cells?_some h1
      obtain ⟨xs, k, hk, hxy, _, hxl, hg⟩ := DataW.trod_struct Tryz.underlying45 h2
      match xs, hxl, cs', hlen with
      | [y0, y1, y2], _, [v0, v1, v2], _ =>
        have g0 := hg 0 _ rfl
        have g1 := hg 1 _ rfl
        have g2 := hg 2 _ rfl
        simp [c1] at g0 g1 g2
        obtain ⟨k0, hk0, _, _⟩ := DataW.trod_int Tryz.underlying3 g0
        obtain ⟨k1, hk1, _, _⟩ := DataW.trod_int Tryz.underlying3 g1
        obtain ⟨k2, hk2, _, _⟩ := DataW.trod_int Tryz.underlying3 g2
        simp at hk0 hk1 hk2
        subst hk0 hk1 hk2
        have e0 := hcell 0 (by omega)
        have e1 := hcell 1 (by omega)
        have e2 := hcell 2 (by omega)
        rw [add_add] at e0 e1 e2
        exact ⟨(k0, k1, k2), by simpa using e0, by simpa using e1, by simpa using e2⟩
    obtain ⟨q0, hq0⟩ := choose_lt each
    obtain ⟨q, hqe⟩ : ∃ q : Nat → G, q = fun i => ⟨(q0 i).1, (q0 i).2.1, (q0 i).2.2⟩ := ⟨_, rfl⟩
    have hq : ∀ i, i < n → W.cell? (x.add (i * 3)) = some (.int .i64 (q i).a) ∧ W.cell? (x.add (i * 3 + 1)) = some (.int .i64 (q i).f) ∧ W.cell? (x.add (i * 3 + 2)) = some (.int .i64 (q i).t) := by rw [hqe]; exact hq0
    clear hq0 hqe
    refine ⟨(List.range n).map q, by simp, fun hn => ?_, fun hn a ha => ?_, hl, hm⟩
    · have hn0 : 0 < n := by rw [cellsG_len] at hn; simp at hn; exact hn
      obtain ⟨b, off, spot⟩ := x
      have h00 := (hq 0 hn0).1
      have hspot : spot = none := by simpa [Addr.add] using World.cell?_spot h00
      subst hspot
      refine ⟨b, off, rfl, fun j u hj => ?_⟩
      have hjl := (List.getElem?_eq_some_iff.1 hj).1
      rw [cellsG_len] at hjl
      simp at hjl
      have hi : j / 3 < n := by omega
      have hli : j / 3 < ((List.range n).map q).length := by simpa using hi
      obtain ⟨z0, z1, z2⟩ := cellsG_at ((List.range n).map q) (j / 3) hli
      have hqi := hq (j / 3) hi
      simp only [List.getElem_map, List.getElem_range] at z0 z1 z2
      rw [add_plain, add_plain, add_plain] at hqi
      have hcase : j = 3 * (j / 3) ∨ j = 3 * (j / 3) + 1 ∨ j = 3 * (j / 3) + 2 := by omega
      rcases hcase with e | e | e
      · rw [e, z0] at hj
        have hj := Option.some.inj hj
        have := hqi.1
        rw [← hj, show off + j = off + j / 3 * 3 by omega]
        exact this
      · rw [e, z1] at hj
        have hj := Option.some.inj hj
        have := hqi.2.1
        rw [← hj, show off + j = off + (j / 3 * 3 + 1) by omega]
        exact this
      · rw [e, z2] at hj
        have hj := Option.some.inj hj
        have := hqi.2.2
        rw [← hj, show off + j = off + (j / 3 * 3 + 2) by omega]
        exact this
    · injection ha with ha
      subst ha
      have h0 := (hq 0 hn).1
      exact World.block_lt_of_cell? W _ (by simpa [Addr.add] using h0)
section
variable {H : Type} {enc : TypeId × Value → H} {W : World}
theorem weights_all {P : Program} {e : TypeId} {elems : List (DataW H)} {d : DataW H} (hd : d ∈ elems) {n : Nat} (hn : n ∈ d.weights P e) : n ∈ DataW.weightsAll P e elems := by
  induction elems with
  | nil => cases hd
  | cons x r ih =>
    unfold DataW.weightsAll
    rcases List.mem_cons.1 hd with rfl | h
    · exact List.mem_append_left _ hn
    · exact List.mem_append_right _ (ih h)
set_option maxRecDepth 100000 in
theorem arg_names {fuel : Nat} {v : Value} {d : DataW H} {p : List MemPlace} (h : DataW.trod enc Tryz.prog W 0 (fun _ => true) true fuel 23 [v] = some (d, p)) (hw : ∀ n ∈ d.weights Tryz.prog 23, n ≤ reachBytes) :
    ∃ A n c ks, v = .slice A n c ∧ ArgT W A n c ks ∧ ∀ x ∈ ks, x.length ≤ 281474976710656 := by
  rcases open_strings Tryz.underlying23 Tryz.underlying9 (by kernel_rfl) h with ⟨hcs, _⟩ | ⟨a, n, c, ss, hcs, _, hl, hm, hz, hx, hcell, hs⟩
  · simp at hcs
    exact ⟨none, 0, 0, [], hcs, ⟨rfl, Reads.empty, fun h => absurd h (Nat.lt_irrefl 0), Nat.le_refl _, Nat.zero_le _⟩, fun x hx => by cases hx⟩
  · simp at hcs
    have hz' : ss.length = c := by simpa using hz
    have hdd : d = .slice (strs (ss.take n)) (strs (ss.drop n)) := congrArg Prod.fst hx
    refine ⟨some a, n, c, (ss.take n).map (fun s => s.data.toList), hcs, ⟨by simp; omega, fun hx => ?_, fun hn a' ha => ?_, hl, hm⟩, fun s hs' => ?_⟩
    · simp at hx
      obtain ⟨b, off, spot⟩ := a
      have h0 := hcell 0 (by omega)
      have hspot : spot = none := by simpa [Addr.add] using World.cell?_spot h0
      subst hspot
      refine ⟨b, off, rfl, fun j u hj => ?_⟩
      have hjl := (List.getElem?_eq_some_iff.1 hj).1
      simp only [List.length_map, List.length_take] at hjl
      have hjn : j < ss.length := by omega
      have hjt : j < n := by omega
      have h2 := hcell j hjn
      rw [add_plain] at h2
      rw [h2, ← hj, List.map_map, List.getElem?_map, List.getElem?_take, if_pos hjt, List.getElem?_eq_getElem hjn]
      simp [strV, List.getD, hjn]
    · injection ha with ha
      subst ha
      have h0 := hcell 0 (by omega)
      exact World.block_lt_of_cell? W _ (by simpa [Addr.add] using h0)
    · obtain ⟨q, hq, rfl⟩ := List.mem_map.1 hs'
      have hmem : DataW.lit (.string q.data.toList) ∈ (strs (ss.take n) : List (DataW H)) := by
        unfold strs
        exact List.mem_map.2 ⟨q, hq, rfl⟩
      have h3 := hw q.data.toList.length (by
        rw [hdd]
        unfold DataW.weights
        rw [Tryz.underlying23]
        exact List.mem_cons_of_mem _ (List.mem_append_left _ (weights_all hmem (by simp [DataW.weights]))))
      unfold reachBytes at h3
      omega
set_option maxRecDepth 100000 in
theorem arg_ints5 {fuel : Nat} {v : Value} {x : DataW H × List MemPlace} (h : DataW.trod enc Tryz.prog W 0 (fun _ => true) true fuel 25 [v] = some x) : ∃ A n c l, v = .slice A n c ∧ ArgI W A n c l := by
  rcases open_ints Tryz.underlying25 Tryz.underlying3 (by kernel_rfl) h with ⟨hcs, _⟩ | ⟨x, n, c, zs, hcs, _, hl, hm, hz, hx, hcell, hwz⟩
  · simp at hcs
    exact ⟨none, 0, 0, [], hcs, rfl, Reads.empty, fun h => absurd h (Nat.lt_irrefl 0), Nat.le_refl _, Nat.zero_le _⟩
  · simp at hcs
    have hz' : zs.length = c := by simpa using hz
    refine ⟨some x, n, c, zs.take n, hcs, by simp; omega, fun hn => ?_, fun hn a ha => ?_, hl, hm⟩
    · have hn0 : 0 < n := by simp at hn; omega
      obtain ⟨b, off, spot⟩ := x
      have h0 := hcell 0 (by omega)
      have hspot : spot = none := by simpa [Addr.add] using World.cell?_spot h0
      subst hspot
      refine ⟨b, off, rfl, fun i y hy => ?_⟩
      have hin : i < n := by
        have := (List.getElem?_eq_some_iff.1 hy).1
        simp at this
        omega
      have hiz : i < zs.length := by omega
      have h2 := hcell i hiz
      rw [add_plain] at h2
      rw [h2]
      simp [hin, List.getElem?_eq_getElem hiz] at hy ⊢
      exact hy
    · injection ha with ha
      subst ha
      have h0 := hcell 0 (by omega)
      exact World.block_lt_of_cell? W _ (by simpa [Addr.add] using h0)
set_option maxRecDepth 100000 in
set_option maxHeartbeats 1000000 in
theorem arg_conf {v : Value} {d : DataW H} {p : List MemPlace} (hv : ∃ cs, v = .agg cs ∧ cs.size = Tryz.prog.cellsOf 28) (h : DataW.Trod enc Tryz.prog W 0 (fun _ => true) true 28 v d p)
    {ts : List TypeId} {ds : List (DataW H)} (hsz : (DataW.weightsEach Tryz.prog ts ds).all (· ≤ reachBytes) = true) {j : Nat} (ht : ts[j]? = some 28) (hd : ds[j]? = some d) :
    ∃ (s : Cs) (c : Cf), v = s.v ∧ ArgC W s c := by
  obtain ⟨cs, rfl, hcs⟩ := hv
  have cn : Tryz.prog.cellsOf 28 = 4 := by kernel_rfl
  have c0 : Tryz.prog.cellsOf 23 = 1 := by kernel_rfl
  have c1 : Tryz.prog.cellsOf 24 = 1 := by kernel_rfl
  have c2 : Tryz.prog.cellsOf 25 = 1 := by kernel_rfl
  have c3 : Tryz.prog.cellsOf 26 = 1 := by kernel_rfl
  obtain ⟨fuel, hf⟩ := h
  obtain ⟨xs, k, _, hxy, hlen, hxl, hg⟩ := DataW.trod_struct Tryz.underlying28 hf
  obtain ⟨cl⟩ := cs
  simp [Value.cells] at hlen
  rw [cn] at hlen
  match xs, hxl, cl, hlen with
  | [y0, y1, y2, y3], _, [v0, v1, v2, v3], _ =>
    have g0 := hg 0 _ rfl
    have g1 := hg 1 _ rfl
    have g2 := hg 2 _ rfl
    have g3 := hg 3 _ rfl
    simp [Value.cells, c0, c1, c2, c3] at g0 g1 g2 g3
    obtain ⟨d0, p0⟩ := y0
    have hdd : d = .agg ([(d0, p0), y1, y2, y3].map (·.1)) := congrArg Prod.fst hxy
    have hw : ∀ n ∈ d0.weights Tryz.prog 23, n ≤ reachBytes := fun n hn => by
      have hm : n ∈ d.weights Tryz.prog 28 := by
        rw [hdd]
        unfold DataW.weights
        rw [Tryz.underlying28]
        exact List.mem_append_left _ hn
      have := List.all_eq_true.1 hsz _ (DataW.weights_mem_each ht hd _ hm)
      simpa using this
    obtain ⟨nA, nn, nc, ks, rfl, hN, hS⟩ := arg_names g0 hw
    obtain ⟨qA, qn, qc, ql, rfl, hQ⟩ := arg_ints5 g2
    have s1 : ∃ uA un uc, v1 = .slice uA un uc := by
      rcases open_slice Tryz.underlying24 g1 with ⟨hcs, _⟩ | ⟨x, l, c', m, fu, D, Pl, hcs, _⟩
      · simp at hcs; exact ⟨_, _, _, hcs⟩
      · simp at hcs; exact ⟨_, _, _, hcs⟩
    have s3 : ∃ gA gn gc, v3 = .slice gA gn gc := by
      rcases open_slice Tryz.underlying26 g3 with ⟨hcs, _⟩ | ⟨x, l, c', m, fu, D, Pl, hcs, _⟩
      · simp at hcs; exact ⟨_, _, _, hcs⟩
      · simp at hcs; exact ⟨_, _, _, hcs⟩
    obtain ⟨uA, un, uc, rfl⟩ := s1
    obtain ⟨gA, gn, gc, rfl⟩ := s3
    obtain ⟨ul, hU⟩ := arg_u64s (d := y1.1) (p := y1.2) ⟨k, by simpa [Value.cells] using g1⟩
    obtain ⟨gl, hG⟩ := arg_grants5 (d := y3.1) (p := y3.2) ⟨k, by simpa [Value.cells] using g3⟩
    exact ⟨⟨nA, nn, nc, uA, un, uc, qA, qn, qc, gA, gn, gc⟩, ⟨ks, ul, ql, gl⟩, rfl, ⟨hN, hU, hQ, hG, hS⟩⟩
end

end Go.Proofs.YtglkmpglpddfdaaGreatDoor
end
