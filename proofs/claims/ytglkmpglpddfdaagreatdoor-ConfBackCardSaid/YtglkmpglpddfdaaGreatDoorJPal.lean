import Derived.Test.YtglkmpglpddfdaaGreatDoorJPag
import Derived.Deep.AppendLies
import Derived.Test.YtglkmpglpddfdaaGreatDoorJRdk
import Derived.StillTailTactics
/- Of a claim's texts, joined: Pal. No statement but in the last. -/
namespace Go.Proofs.YtglkmpglpddfdaaGreatDoor
open Go.RowKit
set_option linter.unusedVariables false

theorem cellsW_at (l : List Wd) (i : Nat) (h : i < l.length) : (cellsW l)[i * 2]? = some (.string ⟨(l[i]).1.toArray⟩) ∧ (cellsW l)[i * 2 + 1]? = some (.int .i64 (l[i].2 : Int)) := by
  induction l generalizing i with
  | nil => simp at h
  | cons x l ih =>
    cases i with
    | zero => simp [cellsW, wC]
    | succ i =>
      obtain ⟨h1, h2⟩ := ih i (by simpa using h)
      have e : cellsW (x :: l) = wC x ++ cellsW l := by simp [cellsW]
      have hl : (wC x).length = 2 := rfl
      rw [e, List.getElem?_append_right (by rw [hl]; omega), List.getElem?_append_right (by rw [hl]; omega), hl, show (i + 1) * 2 - 2 = i * 2 by omega, show (i + 1) * 2 + 1 - 2 = i * 2 + 1 by omega]
      simpa using ⟨h1, h2⟩
def WR (w : World) (g cap : Nat) (l : List Wd) : Prop := w.ownsRow 0 97 2 (.slice (some ⟨g, 0, none⟩) l.length cap) l.length (cellsW l)
theorem WR.word {w : World} {g cap : Nat} {l : List Wd} (h : WR w g cap l) (i : Nat) (hi : i < l.length) : w.cell? ⟨g, i * 2, none⟩ = some (.string ⟨(wAt l i).1.toArray⟩) ∧ w.cell? ⟨g, i * 2 + 1, none⟩ = some (.int .i64 ((wAt l i).2 : Int)) := by
  obtain ⟨h1, h2⟩ := cellsW_at l i hi
  rw [wAt_at l i hi]
  rcases h.2 with ⟨hn, _⟩ | ⟨g', cap', cur, hv, _, hg, _, _, _, hcur⟩
  · cases hn
  · injection hv with hv _ _
    injection hv with hv
    injection hv with hv
    subst hv
    have k : ∀ j u, (cellsW l)[j]? = some u → w.cell? ⟨g, j, none⟩ = some u := fun j u hj => by
      rw [Has.cell (w := w) (g := g) (t := 97) (cs := cur) hg]
      rw [← hcur, List.getElem?_take] at hj
      split at hj
      · simpa using hj
      · cases hj
    exact ⟨k _ _ h1, k _ _ h2⟩
theorem WR.room {w : World} {g cap : Nat} {l : List Wd} (h : WR w g cap l) : l.length ≤ cap := by
  rcases h.2 with ⟨hn, _⟩ | ⟨g', cap', cur, hv, _, hg, h1, _, _, hcur⟩
  · cases hn
  · injection hv with _ _ hv
    omega
theorem WR.below {w w' : World} {g cap : Nat} {l : List Wd} (h : WR w g cap l) (hb : Below w.heap.size w w') : WR w' g cap l := own_bel h hb
theorem badAt_short {c : Cf} {l : List Wd} {en i : Nat} (h : l.length ≤ i) : badAt c l en i = some en := by unfold badAt; rw [if_pos h]
theorem badAt_name {c : Cf} {l : List Wd} {en i : Nat} (h : i < l.length) (hl : (wAt l 0).1 ≠ labelT) : badAt c l en i = if findN c.names (wAt l i).1 < 0 then some (wAt l i).2 else none := by
  unfold badAt; rw [if_neg (by omega), if_neg hl]
theorem badAt_one {c : Cf} {l : List Wd} {en : Nat} (h : 1 < l.length) (hl : (wAt l 0).1 = labelT) : badAt c l en 1 = if nameB (wAt l 1).1 = false ∨ 0 ≤ findN c.names (wAt l 1).1 ∨ 64 ≤ c.names.length then some (wAt l 1).2 else none := by
  unfold badAt; rw [if_neg (by omega), if_pos hl]; simp
theorem badAt_two {c : Cf} {l : List Wd} {en : Nat} (h : 2 < l.length) (hl : (wAt l 0).1 = labelT) : badAt c l en 2 = if quotaN (wAt l 2).1 < 0 then some (wAt l 2).2 else none := by
  unfold badAt; rw [if_neg (by omega), if_pos hl]; simp
def foundN (c : Cf) (l : List Wd) (k : Nat) : List Int := (List.range k).map fun i => findN c.names (wAt l (i + 1)).1
theorem intinfo5 : (Tryz.prog.info? 3).map (fun i => (i.zero, i.size, i.bytes)) = some (some (.int .i64 0), 1, 8) := by kernel_rfl
theorem cells1_new5 (w : World) (a : Value) (ty : TypeId) : ∀ (j : Nat) (u : Value), ([a] : List Value)[j]? = some u → (w.alloc (.cells #[a] ty)).cell? ((⟨w.heap.size, 0, none⟩ : Addr).add j) = some u := by
  intro j u hj
  rw [add_plain, (Has.made w ty #[a]).cell]
  simpa using hj

/-! One more name, number, row. -/
theorem strinfo5 : (Tryz.prog.info? 9).map (fun i => (i.zero, i.size, i.bytes)) = some (some (.string ⟨#[]⟩), 1, 16) := by kernel_rfl
theorem u64info5 : (Tryz.prog.info? 37).map (fun i => (i.zero, i.size, i.bytes)) = some (some (.int .u64 0), 1, 8) := by kernel_rfl
theorem PBx.app0 {w w' : World} {base P : Nat} {vn vu vq vg v' : Value} {c : Cf} {x : List UInt8} (h : PBx w base P vn vu vq vg c) (ho : w'.ownsRow base 9 1 v' (c.names.length + 1) (c.names.map strV ++ [strV x])) (hg : w.grownBy w' vn.ownBlock) :
    PBx (w'.setCell ⟨P, 0, none⟩ v') base P v' vu vq vg { c with names := c.names ++ [x] } ∧ Has w' P 50 #[vn, vu, vq, vg] := by
  obtain ⟨h1, h2, h3, h4, h5, h6⟩ := h
  have k1 := has_grown h1 h3 hg (by decide)
  refine ⟨⟨?_, h2, own_store (by simpa using ho) k1 (by decide) _ _, own_store (h4.kept hg (own_sep h4 h3 (by decide))) k1 (by decide) _ _, own_store (h5.kept hg (own_sep h5 h3 (by decide))) k1 (by decide) _ _, own_store (h6.kept hg (own_sep h6 h3 (by decide))) k1 (by decide) _ _⟩, k1⟩
  have := k1.store 0 v'
  simpa using this
theorem PBx.app1 {w w' : World} {base P : Nat} {vn vu vq vg v' : Value} {c : Cf} {x : Nat} (h : PBx w base P vn vu vq vg c) (ho : w'.ownsRow base 37 1 v' (c.up.length + 1) (c.up.map u64V ++ [u64V x])) (hg : w.grownBy w' vu.ownBlock) :
    PBx (w'.setCell ⟨P, 1, none⟩ v') base P vn v' vq vg { c with up := c.up ++ [x] } ∧ Has w' P 50 #[vn, vu, vq, vg] := by
  obtain ⟨h1, h2, h3, h4, h5, h6⟩ := h
  have k1 := has_grown h1 h4 hg (by decide)
  refine ⟨⟨?_, h2, own_store (h3.kept hg (own_sep h3 h4 (by decide))) k1 (by decide) _ _, own_store (by simpa using ho) k1 (by decide) _ _, own_store (h5.kept hg (own_sep h5 h4 (by decide))) k1 (by decide) _ _, own_store (h6.kept hg (own_sep h6 h4 (by decide))) k1 (by decide) _ _⟩, k1⟩
  have := k1.store 1 v'
  simpa using this
theorem PBx.app2 {w w' : World} {base P : Nat} {vn vu vq vg v' : Value} {c : Cf} {x : Int} (h : PBx w base P vn vu vq vg c) (ho : w'.ownsRow base 3 1 v' (c.quotas.length + 1) (c.quotas.map (Value.int .i64) ++ [.int .i64 x])) (hg : w.grownBy w' vq.ownBlock) :
    PBx (w'.setCell ⟨P, 2, none⟩ v') base P vn vu v' vg { c with quotas := c.quotas ++ [x] } ∧ Has w' P 50 #[vn, vu, vq, vg] := by
  obtain ⟨h1, h2, h3, h4, h5, h6⟩ := h
  have k1 := has_grown h1 h5 hg (by decide)
  refine ⟨⟨?_, h2, own_store (h3.kept hg (own_sep h3 h5 (by decide))) k1 (by decide) _ _, own_store (h4.kept hg (own_sep h4 h5 (by decide))) k1 (by decide) _ _, own_store (by simpa using ho) k1 (by decide) _ _, own_store (h6.kept hg (own_sep h6 h5 (by decide))) k1 (by decide) _ _⟩, k1⟩
  have := k1.store 2 v'
  simpa using this
theorem WR.app {w w' : World} {g cap b s n : Nat} {e : TypeId} {v : Value} {xs : List Value} {l : List Wd} (h : WR w g cap l) (ho : w.ownsRow b e s v n xs) (hne : 97 ≠ e) (hg : w.grownBy w' v.ownBlock) : WR w' g cap l :=
  World.ownsRow.kept h hg (own_sep h ho hne)
theorem WR.set {w : World} {g cap P i : Nat} {u : Value} {cs : Array Value} {l : List Wd} (h : WR w g cap l) (hP : Has w P 50 cs) : WR (w.setCell ⟨P, i, none⟩ u) g cap l := own_store h hP (by decide) _ _

def LineEnd (base P : Nat) (r : Cf × Nat) (w : World) (e : Ending) (w' : World) : Prop := e = .returned (.int .i64 (r.2 : Int)) ∧ PB w' base P r.1 ∧ Below base w w'
end Go.Proofs.YtglkmpglpddfdaaGreatDoor
