/- Package disk: a region's write, its walk: contract, no statement. -/
import Derived.Test.YthbchloghbfnmaaDwr
import Derived.Laws.Cover3
namespace Go.Proofs.Ythbchloghbfnmaa
open Go.RowKit
set_option linter.unusedVariables false

def WrEnd (T : Tg) (d A i m1 m2 : Nat) (r : Rg) (w : World) (e : Ending) (w' : World) : Prop := e = .returned (.tuple #[]) ∧ ∃ T' v', Ar w' T' d A i m1 m2 v' r ∧ Nx T d A i w T' w'
section
variable {T : Tg} {d A i m1 m2 : Nat} {v : Value} {r : Rg}
theorem Nx.drew {w w' : World} {T' : Tg} (h : Nx T d A i w.drew T' w') : Nx T d A i w T' w' := ⟨h.os, h.tape, h.output, h.size, h.block, h.row, h.old, h.new⟩
theorem Ar.drew {w : World} (h : Ar w T d A i m1 m2 v r) : Ar w.drew T d A i m1 m2 v r := ⟨h.c0, h.c1, h.c2, h.c3, h.c4, h.c5, h.ta, h.t1, h.t2, h.t3, h.p1, h.p2, h.row, h.ok⟩
set_option maxRecDepth 100000 in
set_option maxHeartbeats 4000000 in
theorem write_any (p : Int) (l : List UInt8) (gb ob cb : Nat) (w : World) (h : Ar w T d A i m1 m2 v r) (hA : ∃ cs, Has w A 72 cs) (hlo : ∀ x t, T x = some t → x < w.heap.size) (h0 : 0 ≤ p) (h1 : p < r.size) (hl : l.length = 128) (hr : w.rangeAt gb ob (l.map byteV)) (hc : 128 ≤ cb) (hn : r.loose.length ≤ 1000)
    (ht : ∀ k, T gb ≠ some (d, k)) : Calls Try.prog 34 #[.pointer (some ⟨A, i * 6, none⟩), .int .i64 p, .slice (some ⟨gb, ob, none⟩) 128 cb] w (WrEnd T d A i m1 m2 (wrR r p l) w) := by
  obtain ⟨cs, hA'⟩ := hA
  obtain ⟨vA, vk, rfl⟩ := own_slw h.row
  have hd := h.drew
  obtain ⟨w1, hput, hM, hg, hsz1⟩ := run_put (P := Try.prog) (w := w.drew) Try.underlying69 Try.underlying3 hd.p2 p (.int .i64 (r.loose.length : Int))
  have hAm2 : A ≠ m2 := fun e => h.p2.apart hA' e.symm
  have hA1 : Has w1 A 72 cs := Has.grown (w := w.drew) hA' hg (fun e => hAm2 (by injection e))
  have hc1 : ∀ j, w1.cell? ⟨A, i * 6 + j, none⟩ = w.cell? ⟨A, i * 6 + j, none⟩ := fun j => by rw [hA1.cell, hA'.cell]
  have hS0 : (fun w' : World => w'.cell? ⟨A, i * 6 + 2, none⟩ = some (.slice vA r.loose.length vk) ∧ w'.cell? ⟨A, i * 6 + 3, none⟩ = some (.map (some m2))) w.drew := ⟨h.c2, h.c3⟩
  have hS1 : (fun w' : World => w'.cell? ⟨A, i * 6 + 2, none⟩ = some (.slice vA r.loose.length vk) ∧ w'.cell? ⟨A, i * 6 + 3, none⟩ = some (.map (some m2))) w1 := ⟨(hc1 2).trans h.c2, (hc1 3).trans h.c3⟩
  have hgb : gb < w.heap.size := World.block_lt_of_cell? w (a := ⟨gb, ob + 0, none⟩) (hr 0 (byteV (l.getD 0 0)) (by simp [hl, List.getD]))
  have hgm : gb ≠ m2 := fun e => ht _ (by rw [e]; exact h.t2)
  have hr1 : w1.drew.rangeAt gb ob (l.map byteV) := fun j u hj => (cell_heap (p := ⟨gb, ob + j, none⟩) (show w1.drew.heap[gb]? = w.heap[gb]? from hg.block gb hgb (fun e => hgm (by injection e)))).trans (hr j u hj)
  have hld := load_content hl hr1
  have hbd := fun w => run_build_write w p hl
  have hcw : (cellsW (p, l)).length = 129 := cellsW_len hl
  have hsl := run_slice_write w1.drew hcw
  have hC1 : (fun w' : World => w'.cell? ⟨A, i * 6 + 2, none⟩ = some (.slice vA r.loose.length vk)) w1.drew := hS1.1
  have hb12 : Below w1.heap.size w1 (w1.drew.alloc (.cells (cellsW (p, l)).toArray 91)) := (Below.refl _ w1).drew.alloc (Nat.le_refl _) _
  have hC2 : (fun w' : World => w'.cell? ⟨A, i * 6 + 2, none⟩ = some (.slice vA r.loose.length vk)) (w1.drew.alloc (.cells (cellsW (p, l)).toArray 91)) := cellB hS1.1 hb12
  have hrow1 : w1.ownsRow 0 91 129 (.slice vA r.loose.length vk) r.loose.length (cellsL r.loose) := own_keep (w := w.drew) hd.row (fun g hgg => hg.block g (own_lt hd.row hgg) (fun e => by
    injection e with e
    have q1 := h.t3 g hgg
    rw [e, h.t2] at q1
    injection q1 with q1
    injection q1 with _ q1
    omega))
  have HO : Hid ((w1.drew.alloc (.cells (cellsW (p, l)).toArray 91)).ownsRow 0 91 129 (.slice vA r.loose.length vk) r.loose.length (cellsL r.loose)) := Lib.hid (own_keep hrow1 (fun g hgg => hb12.block g (own_lt hrow1 hgg)))
  obtain ⟨i0, hi, hz0, hz1, hz2⟩ := info_parts info_write
  have wz : (Value.agg (.int .i64 0 :: zeros.map byteV).toArray).cells.size = 129 := wzero_size
  have hcl : ∀ j u, (cellsW (p, l))[j]? = some u → (w1.drew.alloc (.cells (cellsW (p, l)).toArray 91)).cell? ((⟨w1.heap.size, 0, none⟩ : Addr).add j) = some u := fun j u hj => by
    rw [add_plain, Nat.zero_add]
    have := (Has.made w1.drew 91 (cellsW (p, l)).toArray).cell j
    exact this.trans (by simpa using hj)
  have hco : ∀ u ∈ cellsW (p, l), u.oneCell' = true := by
    intro u hu
    unfold cellsW at hu
    simp only [List.mem_cons] at hu
    rcases hu with rfl | hu
    · rfl
    · exact one_byteV _ u hu
  have HK := Lib.hid (fun g cap w3 h7 h8 h9 h10 => Ar.wrote (w := w.drew) (w1 := w1) (w2 := w1.drew.alloc (.cells (cellsW (p, l)).toArray 91)) (w3 := w3) (p := p) (l := l) (g := g) (cap := cap) (cs := cs) hd hA' hlo hM hg hb12 h7 h8 h9 h10 h0 h1 hl)
  have hsp := fun w => run_arrayAt (P := Try.prog) w 88 _ _ (some ⟨gb, ob, none⟩) 128 cb Try.underlying88 (Nat.le_refl _)
  have hmx : Try.prog.follows .mixedOrders = true := by kernel_rfl
  have hn' : r.loose.length + 1 ≤ 9223372036854775807 := by omega
  have hpv : ∃ pv, pageV l = pv := ⟨_, rfl⟩
  generalize (Value.agg (.int .i64 0 :: zeros.map byteV).toArray) = zw at hz0 wz
  clear h hd hM hg hsz1 hAm2 hA1 hc1 hgb hgm hr1 hr hb12 hrow1 hA' hlo ht hpv
  go_enter Try.func34, Try.ntmps34
  go_wp2
  rename_i K hK
  refine wp_held (fun w' : World => w'.cell? ⟨A, i * 6 + 2, none⟩ = some (.slice vA r.loose.length vk) ∧ w'.cell? ⟨A, i * 6 + 3, none⟩ = some (.map (some m2))) K hmx ?_ (fun _ _ h => h)
  refine wpAnyH_take (i := 0) (v := .pointer (some ⟨A, i * 6, none⟩)) rfl (by kernel_rfl) (by kernel_rfl) (by kernel_rfl) (fun _ _ _ h => h) (Or.inl ⟨by rfl, ?_⟩) hS0 ?_
  · rintro w6 ⟨b1, b2⟩
    go_simp
  simp only [Act.put, List.setIfInBounds_toArray, List.set_cons_zero, List.set_cons_succ, List.getElem_toArray, List.getElem_cons_zero]
  refine wpAnyH_take (i := 1) (v := .pointer (some ⟨A, i * 6, none⟩)) rfl (by kernel_rfl) (by kernel_rfl) (by kernel_rfl) (fun _ _ _ h => h) (Or.inl ⟨by rfl, ?_⟩) hS0 ?_
  · rintro w6 ⟨b1, b2⟩
    go_simp
  simp only [Act.put, List.setIfInBounds_toArray, List.set_cons_zero, List.set_cons_succ, List.getElem_toArray, List.getElem_cons_zero, List.getElem_cons_succ]
  refine wpAnyH_take (i := 2) (v := .pointer (some ⟨A, i * 6 + 3, none⟩)) rfl (by kernel_rfl) (by kernel_rfl) (by kernel_rfl) (fun _ _ _ h => h) (Or.inl ⟨by rfl, ?_⟩) hS0 ?_
  · rintro w6 ⟨b1, b2⟩
    go_simp
  simp only [Act.put, List.setIfInBounds_toArray, List.set_cons_zero, List.set_cons_succ, List.getElem_toArray, List.getElem_cons_zero, List.getElem_cons_succ]
  refine wpAnyH_take (i := 3) (v := .map (some m2)) rfl (by kernel_rfl) (by kernel_rfl) (by kernel_rfl) (fun _ _ _ h => h) (Or.inl ⟨by rfl, ?_⟩) hS0 ?_
  · rintro w6 ⟨b1, b2⟩
    go_simp
  simp only [Act.put, List.setIfInBounds_toArray, List.set_cons_zero, List.set_cons_succ, List.getElem_toArray, List.getElem_cons_zero, List.getElem_cons_succ]
  refine wpAnyH_take (i := 4) (v := .int .i64 p) rfl (by kernel_rfl) (by kernel_rfl) (by kernel_rfl) (fun _ _ _ h => h) (Or.inl ⟨by rfl, ?_⟩) hS0 ?_
  · rintro w6 ⟨b1, b2⟩
    go_simp
  simp only [Act.put, List.setIfInBounds_toArray, List.set_cons_zero, List.set_cons_succ, List.getElem_toArray, List.getElem_cons_zero, List.getElem_cons_succ]
  refine wpAnyH_take (i := 5) (v := .pointer (some ⟨A, i * 6, none⟩)) rfl (by kernel_rfl) (by kernel_rfl) (by kernel_rfl) (fun _ _ _ h => h) (Or.inl ⟨by rfl, ?_⟩) hS0 ?_
  · rintro w6 ⟨b1, b2⟩
    go_simp
  simp only [Act.put, List.setIfInBounds_toArray, List.set_cons_zero, List.set_cons_succ, List.getElem_toArray, List.getElem_cons_zero, List.getElem_cons_succ]
  refine wpAnyH_take (i := 6) (v := .pointer (some ⟨A, i * 6, none⟩)) rfl (by kernel_rfl) (by kernel_rfl) (by kernel_rfl) (fun _ _ _ h => h) (Or.inl ⟨by rfl, ?_⟩) hS0 ?_
  · rintro w6 ⟨b1, b2⟩
    go_simp
  simp only [Act.put, List.setIfInBounds_toArray, List.set_cons_zero, List.set_cons_succ, List.getElem_toArray, List.getElem_cons_zero, List.getElem_cons_succ]
  refine wpAnyH_take (i := 7) (v := .pointer (some ⟨A, i * 6 + 2, none⟩)) rfl (by kernel_rfl) (by kernel_rfl) (by kernel_rfl) (fun _ _ _ h => h) (Or.inl ⟨by rfl, ?_⟩) hS0 ?_
  · rintro w6 ⟨b1, b2⟩
    go_simp
  simp only [Act.put, List.setIfInBounds_toArray, List.set_cons_zero, List.set_cons_succ, List.getElem_toArray, List.getElem_cons_zero, List.getElem_cons_succ]
  refine wpAnyH_take (i := 8) (v := .slice vA r.loose.length vk) rfl (by kernel_rfl) (by kernel_rfl) (by kernel_rfl) (fun _ _ _ h => h) (Or.inl ⟨by rfl, ?_⟩) hS0 ?_
  · rintro w6 ⟨b1, b2⟩
    go_simp
  simp only [Act.put, List.setIfInBounds_toArray, List.set_cons_zero, List.set_cons_succ, List.getElem_toArray, List.getElem_cons_zero, List.getElem_cons_succ]
  refine wpAnyH_take (i := 9) (v := .int .i64 (r.loose.length : Int)) rfl (by kernel_rfl) (by kernel_rfl) (by kernel_rfl) (fun _ _ _ h => h) (Or.inl ⟨by rfl, ?_⟩) hS0 ?_
  · rintro w6 ⟨b1, b2⟩
    go_simp
  simp only [Act.put, List.setIfInBounds_toArray, List.set_cons_zero, List.set_cons_succ, List.getElem_toArray, List.getElem_cons_zero, List.getElem_cons_succ]
  refine wpAnyH_ready (rs := [10]) (by kernel_rfl) (by simp) ?_
  refine AllReadyH.cons rfl (fun K5 hK5 => ?_) AllReadyH.nil
  go_simp
  refine hK5.out _ _ hS1 (fun _ => ?_)
  clear hK5 K5
  refine wpAnyH_done (by kernel_rfl) ?_ _
  refine hK _ _ ?_
  go_wp2
  refine wp_heldQ (fun w' : World => w'.cell? ⟨A, i * 6 + 2, none⟩ = some (.slice vA r.loose.length vk)) 11 hmx ?_
  refine wpAnyK_pure (i := 0) (v := .pointer (some ⟨A, i * 6, none⟩)) rfl (by kernel_rfl) (by kernel_rfl) (by kernel_rfl) (by decide) (fun _ _ _ h => h) (Or.inl ⟨by rfl, ?_⟩) (.inr hC1) ?_
  · intro w6 _
    go_simp
  simp only [Act.put, List.setIfInBounds_toArray, List.set_cons_zero, List.set_cons_succ, List.getElem_toArray, List.getElem_cons_zero]
  refine wpAnyK_pure (i := 1) (v := .pointer (some ⟨A, i * 6, none⟩)) rfl (by kernel_rfl) (by kernel_rfl) (by kernel_rfl) (by decide) (fun _ _ _ h => h) (Or.inl ⟨by rfl, ?_⟩) (.inr hC1) ?_
  · intro w6 _
    go_simp
  simp only [Act.put, List.setIfInBounds_toArray, List.set_cons_zero, List.set_cons_succ, List.getElem_toArray, List.getElem_cons_zero, List.getElem_cons_succ]
  refine wpAnyK_pure (i := 2) (v := .pointer (some ⟨A, i * 6, none⟩)) rfl (by kernel_rfl) (by kernel_rfl) (by kernel_rfl) (by decide) (fun _ _ _ h => h) (Or.inl ⟨by rfl, ?_⟩) (.inr hC1) ?_
  · intro w6 _
    go_simp
  simp only [Act.put, List.setIfInBounds_toArray, List.set_cons_zero, List.set_cons_succ, List.getElem_toArray, List.getElem_cons_zero, List.getElem_cons_succ]
  refine wpAnyK_pure (i := 3) (v := .pointer (some ⟨A, i * 6 + 2, none⟩)) rfl (by kernel_rfl) (by kernel_rfl) (by kernel_rfl) (by decide) (fun _ _ _ h => h) (Or.inl ⟨by rfl, ?_⟩) (.inr hC1) ?_
  · intro w6 _
    go_simp
  simp only [Act.put, List.setIfInBounds_toArray, List.set_cons_zero, List.set_cons_succ, List.getElem_toArray, List.getElem_cons_zero, List.getElem_cons_succ]
  refine wpAnyK_take (i := 4) (v := .slice vA r.loose.length vk) rfl (by kernel_rfl) (by kernel_rfl) (by kernel_rfl) (by kernel_rfl) (by decide) (by kernel_rfl) (fun _ _ _ h => h) (Or.inl ⟨by rfl, ?_⟩) hC1 ?_
  · rintro w6 c1
    go_simp
  simp only [Act.put, List.setIfInBounds_toArray, List.set_cons_zero, List.set_cons_succ, List.getElem_toArray, List.getElem_cons_zero, List.getElem_cons_succ]
  refine wpAnyK_pure (i := 5) (v := .int .i64 p) rfl (by kernel_rfl) (by kernel_rfl) (by kernel_rfl) (by decide) (fun _ _ _ h => h) (Or.inl ⟨by rfl, ?_⟩) (.inr hC1) ?_
  · intro w6 _
    go_simp
  simp only [Act.put, List.setIfInBounds_toArray, List.set_cons_zero, List.set_cons_succ, List.getElem_toArray, List.getElem_cons_zero, List.getElem_cons_succ]
  refine wpAnyK_pure (i := 6) (v := .slice (some ⟨gb, ob, none⟩) 128 cb) rfl (by kernel_rfl) (by kernel_rfl) (by kernel_rfl) (by decide) (fun _ _ _ h => h) (Or.inl ⟨by rfl, ?_⟩) (.inr hC1) ?_
  · intro w6 _
    go_simp
  simp only [Act.put, List.setIfInBounds_toArray, List.set_cons_zero, List.set_cons_succ, List.getElem_toArray, List.getElem_cons_zero, List.getElem_cons_succ]
  refine wpAnyK_pure (i := 7) (v := .pointer (some ⟨gb, ob, none⟩)) rfl (by kernel_rfl) (by kernel_rfl) (by kernel_rfl) (by decide) (fun _ _ _ h => h) (Or.inl ⟨by rfl, ?_⟩) (.inr hC1) ?_
  · intro w6 _
    go_simp
  simp only [Act.put, List.setIfInBounds_toArray, List.set_cons_zero, List.set_cons_succ, List.getElem_toArray, List.getElem_cons_zero, List.getElem_cons_succ]
  refine wpAnyK_one (i := 8) (by kernel_rfl) rfl (fun K5 hK5 => ?_)
  refine step_load rfl 88 (.tmp 23) rfl _ rfl _ hld ?_
  refine hK5.out _ _ (.inr hC1) ?_
  clear hK5 K5
  simp only [Act.put, List.setIfInBounds_toArray, List.set_cons_zero, List.set_cons_succ, List.getElem_toArray, List.getElem_cons_zero, List.getElem_cons_succ]
  refine wpAnyK_one (i := 9) (by kernel_rfl) rfl (fun K5 hK5 => ?_)
  refine step_build rfl 91 _ rfl #[(0, .int .i64 p), (1, pageV l)] (by simp only [List.map_toArray, List.map_cons, List.map_nil]; rfl) _ (hbd _) ?_
  refine hK5.out _ _ (.inr hC1) ?_
  clear hK5 K5
  simp only [Act.put, List.setIfInBounds_toArray, List.set_cons_zero, List.set_cons_succ, List.getElem_toArray, List.getElem_cons_zero, List.getElem_cons_succ]
  refine wpAnyK_one (i := 10) (by kernel_rfl) rfl (fun K5 hK5 => ?_)
  refine step_slice rfl 70 1 _ rfl #[(0, .agg (cellsW (p, l)).toArray)] (by simp only [List.map_toArray, List.map_cons, List.map_nil]; rfl) _ hsl ?_
  refine hK5.out _ _ (.inr hC2) ?_
  clear hK5 K5
  simp only [Act.put, List.setIfInBounds_toArray, List.set_cons_zero, List.set_cons_succ, List.getElem_toArray, List.getElem_cons_zero, List.getElem_cons_succ]
  refine wpAnyK_one (i := 11) (by kernel_rfl) rfl (fun K5 hK5 => ?_)
  refine step_append_lies _ rfl (.tmp 20) (.tmp 26) 70 rfl 0 91 i0 _ 129 136 Try.underlying70 hi hz0 hz1 hz2 wz (by decide) (.slice vA r.loose.length vk) r.loose.length _ rfl HO.out ⟨w1.heap.size, 0, none⟩ 1 1 (cellsW (p, l)) rfl (by rw [hcw]) (hcl) (hco) (by omega) (by unfold maxLen; omega) (by omega) (Nat.zero_le _) _ rfl ?_
  intro g cap w3 h7 h8 h9 h10
  obtain ⟨HN, HX, cz, fz⟩ := HK.out _ _ _ h7 h8 h9 h10
  refine hK5.out _ _ (.inl (by kernel_rfl)) ?_
  clear hK5 K5
  simp only [Act.put, List.setIfInBounds_toArray, List.set_cons_zero, List.set_cons_succ, List.getElem_toArray, List.getElem_cons_zero, List.getElem_cons_succ]
  refine wpAnyK_pure (i := 12) (v := .pointer (some ⟨A, i * 6, none⟩)) rfl (by kernel_rfl) (by kernel_rfl) (by kernel_rfl) (by decide) (fun _ _ _ h => h) (Or.inl ⟨by rfl, ?_⟩) (.inl (by kernel_rfl)) ?_
  · intro w6 _
    go_simp
  simp only [Act.put, List.setIfInBounds_toArray, List.set_cons_zero, List.set_cons_succ, List.getElem_toArray, List.getElem_cons_zero, List.getElem_cons_succ]
  refine wpAnyK_pure (i := 13) (v := .pointer (some ⟨A, i * 6 + 2, none⟩)) rfl (by kernel_rfl) (by kernel_rfl) (by kernel_rfl) (by decide) (fun _ _ _ h => h) (Or.inl ⟨by rfl, ?_⟩) (.inl (by kernel_rfl)) ?_
  · intro w6 _
    go_simp
  simp only [Act.put, List.setIfInBounds_toArray, List.set_cons_zero, List.set_cons_succ, List.getElem_toArray, List.getElem_cons_zero, List.getElem_cons_succ]
  refine wpAnyK_one (i := 14) (by kernel_rfl) rfl (fun K5 hK5 => ?_)
  go_simp
  refine hK5.out _ _ (.inl (by kernel_rfl)) ?_
  clear hK5 K5
  refine wpAnyK_done (by kernel_rfl) ?_ _
  refine bodyPost_end (results_none rfl _ _ _) rfl ?_
  exact ⟨rfl, _, _, HN, HX.drew⟩
end

end Go.Proofs.Ythbchloghbfnmaa
