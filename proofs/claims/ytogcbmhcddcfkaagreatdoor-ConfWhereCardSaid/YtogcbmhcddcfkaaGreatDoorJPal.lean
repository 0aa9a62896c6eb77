import Derived.Test.YtogcbmhcddcfkaaGreatDoorJPag
import Derived.Deep.AppendLies
import Derived.Test.YtogcbmhcddcfkaaGreatDoorJRdk
import Derived.StillTailTactics
/- Of a claim's texts, joined: Pal. No statement but in the last. -/
namespace Go.Proofs.YtogcbmhcddcfkaaGreatDoor
open Go.RowKit
set_option linter.unusedVariables false

theorem cellsW_at (l : List Wd) (i : Nat) (h : i < l.length) : (cellsW l)[i * 2]? = some (.string ⟨(l[i]).1.toArray⟩) ∧ (cellsW l)[i * 2 + 1]? = some (.int .i64 (l[i].2 : Int)) := by
  induction l generalizing i with
  | nil => simp at h
  | cons x l ih =>
    cases i with
    | zero => simp [cellsW, wC]
    | succ i =>
      obtain ⟨h1, h2⟩ := ih i (by simpa using h)
      have e : cellsW (x :: l) = wC x ++ cellsW l := by simp [cellsW]
      have hl : (wC x).length = 2 := rfl
      rw [e, List.getElem?_append_right (by rw [hl]; omega), List.getElem?_append_right (by rw [hl]; omega), hl, show (i + 1) * 2 - 2 = i * 2 by omega, show (i + 1) * 2 + 1 - 2 = i * 2 + 1 by omega]
      simpa using ⟨h1, h2⟩
def WR (w : World) (g cap : Nat) (l : List Wd) : Prop := w.ownsRow 0 99 2 (.slice (some ⟨g, 0, none⟩) l.length cap) l.length (cellsW l)
theorem WR.word {w : World} {g cap : Nat} {l : List Wd} (h : WR w g cap l) (i : Nat) (hi : i < l.length) : w.cell? ⟨g, i * 2, none⟩ = some (.string ⟨(wAt l i).1.toArray⟩) ∧ w.cell? ⟨g, i * 2 + 1, none⟩ = some (.int .i64 ((wAt l i).2 : Int)) := by
  obtain ⟨h1, h2⟩ := cellsW_at l i hi
  rw [wAt_at l i hi]
  rcases h.2 with ⟨hn, _⟩ | ⟨g', cap', cur, hv, _, hg, _, _, _, hcur⟩
  · cases hn
  · injection hv with hv _ _
    injection hv with hv
    injection hv with hv
    subst hv
    have k : ∀ j u, (cellsW l)[j]? = some u → w.cell? ⟨g, j, none⟩ = some u := fun j u hj => by
      rw [Has.cell (w := w) (g := g) (t := 99) (cs := cur) hg]
      rw [← hcur, List.getElem?_take] at hj
      split at hj
      · simpa using hj
      · cases hj
    exact ⟨k _ _ h1, k _ _ h2⟩
theorem WR.room {w : World} {g cap : Nat} {l : List Wd} (h : WR w g cap l) : l.length ≤ cap := by
  rcases h.2 with ⟨hn, _⟩ | ⟨g', cap', cur, hv, _, hg, h1, _, _, hcur⟩
  · cases hn
  · injection hv with _ _ hv
    omega
theorem WR.below {w w' : World} {g cap : Nat} {l : List Wd} (h : WR w g cap l) (hb : Below w.heap.size w w') : WR w' g cap l := own_bel h hb
theorem badAt_short {c : Cf} {l : List Wd} {en i : Nat} (h : l.length ≤ i) : badAt c l en i = some en := by unfold badAt; rw [if_pos h]
theorem badAt_name {c : Cf} {l : List Wd} {en i : Nat} (h : i < l.length) (hl : (wAt l 0).1 ≠ labelT) : badAt c l en i = if findN c.names (wAt l i).1 < 0 then some (wAt l i).2 else none := by
  unfold badAt; rw [if_neg (by omega), if_neg hl]
theorem badAt_one {c : Cf} {l : List Wd} {en : Nat} (h : 1 < l.length) (hl : (wAt l 0).1 = labelT) : badAt c l en 1 = if nameB (wAt l 1).1 = false ∨ 0 ≤ findN c.names (wAt l 1).1 ∨ 64 ≤ c.names.length then some (wAt l 1).2 else none := by
  unfold badAt; rw [if_neg (by omega), if_pos hl]; simp
theorem badAt_two {c : Cf} {l : List Wd} {en : Nat} (h : 2 < l.length) (hl : (wAt l 0).1 = labelT) : badAt c l en 2 = if quotaN (wAt l 2).1 < 0 then some (wAt l 2).2 else none := by
  unfold badAt; rw [if_neg (by omega), if_pos hl]; simp
theorem lineN_head {c : Cf} {l : List Wd} {en : Nat} (h : manyN (wAt l 0).1 = 0) : lineN c l en = (c, (wAt l 0).2) := by unfold lineN; rw [if_pos h]
theorem lineN_bad {c : Cf} {l : List Wd} {en k p : Nat} (hm : manyN (wAt l 0).1 ≠ 0) (h1 : 1 ≤ k) (hk : k < manyN (wAt l 0).1) (hj : ∀ j, 1 ≤ j → j < k → badAt c l en j = none) (hb : badAt c l en k = some p) : lineN c l en = (c, p) := by
  unfold lineN
  rw [if_neg hm, badFrom_some h1 (by omega) hj hb]
theorem lineN_more {c : Cf} {l : List Wd} {en : Nat} (hm : manyN (wAt l 0).1 ≠ 0) (hj : ∀ j, 1 ≤ j → j < manyN (wAt l 0).1 → badAt c l en j = none) (hn : manyN (wAt l 0).1 < l.length) : lineN c l en = (c, (wAt l (manyN (wAt l 0).1)).2) := by
  unfold lineN
  rw [if_neg hm, badFrom_none (fun j h1 h2 => hj j h1 (by omega))]
  simp [hn]
theorem lineN_good {c : Cf} {l : List Wd} {en : Nat} (hm : manyN (wAt l 0).1 ≠ 0) (hj : ∀ j, 1 ≤ j → j < manyN (wAt l 0).1 → badAt c l en j = none) (hn : ¬ manyN (wAt l 0).1 < l.length) : lineN c l en = (doLine c l, 0) := by
  unfold lineN
  rw [if_neg hm, badFrom_none (fun j h1 h2 => hj j h1 (by omega))]
  simp [hn]
def foundN (c : Cf) (l : List Wd) (k : Nat) : List Int := (List.range k).map fun i => findN c.names (wAt l (i + 1)).1
theorem foundN_more (c : Cf) (l : List Wd) (k : Nat) : foundN c l (k + 1) = foundN c l k ++ [findN c.names (wAt l (k + 1)).1] := by simp [foundN, List.range_succ]
theorem intinfo5 : (Tryz.prog.info? 3).map (fun i => (i.zero, i.size, i.bytes)) = some (some (.int .i64 0), 1, 8) := by kernel_rfl
theorem cells1_new5 (w : World) (a : Value) (ty : TypeId) : ∀ (j : Nat) (u : Value), ([a] : List Value)[j]? = some u → (w.alloc (.cells #[a] ty)).cell? ((⟨w.heap.size, 0, none⟩ : Addr).add j) = some u := by
  intro j u hj
  rw [add_plain, (Has.made w ty #[a]).cell]
  simpa using hj

/-! One more name, number, row. -/
theorem strinfo5 : (Tryz.prog.info? 9).map (fun i => (i.zero, i.size, i.bytes)) = some (some (.string ⟨#[]⟩), 1, 16) := by kernel_rfl
theorem u64info5 : (Tryz.prog.info? 40).map (fun i => (i.zero, i.size, i.bytes)) = some (some (.int .u64 0), 1, 8) := by kernel_rfl
theorem PBx.app0 {w w' : World} {base P : Nat} {vn vu vq vg v' : Value} {c : Cf} {x : List UInt8} (h : PBx w base P vn vu vq vg c) (ho : w'.ownsRow base 9 1 v' (c.names.length + 1) (c.names.map strV ++ [strV x])) (hg : w.grownBy w' vn.ownBlock) :
    PBx (w'.setCell ⟨P, 0, none⟩ v') base P v' vu vq vg { c with names := c.names ++ [x] } ∧ Has w' P 53 #[vn, vu, vq, vg] := by
  obtain ⟨h1, h2, h3, h4, h5, h6⟩ := h
  have k1 := has_grown h1 h3 hg (by decide)
  refine ⟨⟨?_, h2, own_store (by simpa using ho) k1 (by decide) _ _, own_store (h4.kept hg (own_sep h4 h3 (by decide))) k1 (by decide) _ _, own_store (h5.kept hg (own_sep h5 h3 (by decide))) k1 (by decide) _ _, own_store (h6.kept hg (own_sep h6 h3 (by decide))) k1 (by decide) _ _⟩, k1⟩
  have := k1.store 0 v'
  simpa using this
theorem PBx.app1 {w w' : World} {base P : Nat} {vn vu vq vg v' : Value} {c : Cf} {x : Nat} (h : PBx w base P vn vu vq vg c) (ho : w'.ownsRow base 40 1 v' (c.up.length + 1) (c.up.map u64V ++ [u64V x])) (hg : w.grownBy w' vu.ownBlock) :
    PBx (w'.setCell ⟨P, 1, none⟩ v') base P vn v' vq vg { c with up := c.up ++ [x] } ∧ Has w' P 53 #[vn, vu, vq, vg] := by
  obtain ⟨h1, h2, h3, h4, h5, h6⟩ := h
  have k1 := has_grown h1 h4 hg (by decide)
  refine ⟨⟨?_, h2, own_store (h3.kept hg (own_sep h3 h4 (by decide))) k1 (by decide) _ _, own_store (by simpa using ho) k1 (by decide) _ _, own_store (h5.kept hg (own_sep h5 h4 (by decide))) k1 (by decide) _ _, own_store (h6.kept hg (own_sep h6 h4 (by decide))) k1 (by decide) _ _⟩, k1⟩
  have := k1.store 1 v'
  simpa using this
theorem PBx.app2 {w w' : World} {base P : Nat} {vn vu vq vg v' : Value} {c : Cf} {x : Int} (h : PBx w base P vn vu vq vg c) (ho : w'.ownsRow base 3 1 v' (c.quotas.length + 1) (c.quotas.map (Value.int .i64) ++ [.int .i64 x])) (hg : w.grownBy w' vq.ownBlock) :
    PBx (w'.setCell ⟨P, 2, none⟩ v') base P vn vu v' vg { c with quotas := c.quotas ++ [x] } ∧ Has w' P 53 #[vn, vu, vq, vg] := by
  obtain ⟨h1, h2, h3, h4, h5, h6⟩ := h
  have k1 := has_grown h1 h5 hg (by decide)
  refine ⟨⟨?_, h2, own_store (h3.kept hg (own_sep h3 h5 (by decide))) k1 (by decide) _ _, own_store (h4.kept hg (own_sep h4 h5 (by decide))) k1 (by decide) _ _, own_store (by simpa using ho) k1 (by decide) _ _, own_store (h6.kept hg (own_sep h6 h5 (by decide))) k1 (by decide) _ _⟩, k1⟩
  have := k1.store 2 v'
  simpa using this
theorem WR.app {w w' : World} {g cap b s n : Nat} {e : TypeId} {v : Value} {xs : List Value} {l : List Wd} (h : WR w g cap l) (ho : w.ownsRow b e s v n xs) (hne : 99 ≠ e) (hg : w.grownBy w' v.ownBlock) : WR w' g cap l :=
  World.ownsRow.kept h hg (own_sep h ho hne)
theorem WR.set {w : World} {g cap P i : Nat} {u : Value} {cs : Array Value} {l : List Wd} (h : WR w g cap l) (hP : Has w P 53 cs) : WR (w.setCell ⟨P, i, none⟩ u) g cap l := own_store h hP (by decide) _ _

def LineEnd (base P : Nat) (r : Cf × Nat) (w : World) (e : Ending) (w' : World) : Prop := e = .returned (.int .i64 (r.2 : Int)) ∧ PB w' base P r.1 ∧ Below base w w'
set_option maxRecDepth 100000 in
set_option maxHeartbeats 4000000 in
theorem r5line_any (c : Cf) (m : Nat) (l : List Wd) (en base P g cap : Nat) (w : World) (h : PB w base P c) (hok : Okf c m) (hm : m ≤ 100000) (hw : WR w g cap l) (hl : l ≠ []) (hbw : base ≤ w.heap.size) (hsz : ∀ x ∈ l, x.1.length ≤ 100000) :
    Calls Tryz.prog 27 #[.pointer (some ⟨P, 0, none⟩), .slice (some ⟨g, 0, none⟩) l.length cap, .int .i64 (en : Int)] w (LineEnd base P (lineN c l en) w) := by
  have hl0 : 0 < l.length := List.length_pos_iff.2 hl
  have HPB := Lib.hid h
  have HWR := Lib.hid hw
  have HOK := Lib.hid hok
  have hroom := hw.room
  have HWd := Lib.hid (fun (w1 : World) (hb : Below w.heap.size w w1) (i : Nat) (hi : i < l.length) => (hw.below hb).word i hi)
  have HSz : Hid (∀ i, i < l.length → (wAt l i).1.length ≤ 100000) := Lib.hid (fun i hi => by rw [wAt_at l i hi]; exact hsz _ (List.getElem_mem hi))
  obtain ⟨t0, p0⟩ := HWd.out w (Below.refl _ _) 0 hl0
  simp only [Nat.zero_mul, Nat.zero_add] at t0 p0
  obtain ⟨N, hN⟩ : ∃ N, manyN (wAt l 0).1 = N := ⟨_, rfl⟩
  have HMany := Lib.hid (fun w1 => r5many_any (wAt l 0).1 w1)
  rw [hN] at HMany
  have HN := Lib.hid hN
  have HBx := Lib.hid (Below.refl base w)
  clear h hw hok hsz hl
  by_cases hN0 : N = 0
  · have HE := Lib.hid (lineN_head (c := c) (l := l) (en := en) (by rw [hN]; exact hN0))
    subst hN0
    rw [HE.out]
    clear hN HN
    generalize (wAt l 0).1 = t at t0 HMany
    generalize (wAt l 0).2 = p at p0 ⊢
    go_enter Tryz.func27, Tryz.ntmps27
    go_wp2_with (go_at_call 61; (with_reducible refine (HMany.out _).mono ?_); rintro e w' ⟨rfl, rfl⟩)
    go_ret
    exact ⟨rfl, HPB.out, HBx.out⟩
  · obtain ⟨vn, vu, vq, vg, hx⟩ := HPB.out
    obtain ⟨nA, nc, rfl, hT⟩ := argT_own hx.2.2.1 rfl
    have HX := Lib.hid hx
    have HT := Lib.hid hT
    have hn64 := HOK.out.most
    have HFd := Lib.hid (fun w1 (hb : Below w.heap.size w w1) (t : List UInt8) => r5find_any nA c.names.length nc c.names t w1 (hT.below hb) (by omega))
    have HPC := Lib.hid (fun w1 (hb : Below w.heap.size w w1) => show w1.cell? ⟨P, 0, none⟩ = some (.slice nA c.names.length nc) by
      have k := (hx.below hb).1
      rw [k.cell]
      simp)
    have hmx : Tryz.prog.follows .mixedOrders = true := by kernel_rfl
    obtain ⟨j0, hj, jz0, jz1, jz2⟩ := info_parts intinfo5
    clear hx hT
    have hkind : ((wAt l 0).1 = labelT ∧ N = 3) ∨ ((wAt l 0).1 = underT ∧ N = 3) ∨ ((wAt l 0).1 = grantT ∧ N = 4) := by
      unfold manyN at hN
      split at hN
      · rename_i hh
        rcases hh with hh | hh
        · exact .inl ⟨hh, hN.symm⟩
        · exact .inr (.inl ⟨hh, hN.symm⟩)
      · split at hN
        · rename_i hh
          exact .inr (.inr ⟨hh, hN.symm⟩)
        · omega
    have HNe : Hid (manyN (wAt l 0).1 ≠ 0) := Lib.hid (by omega)
    have HBase : Hid (base ≤ w.heap.size) := Lib.hid hbw
    rcases hkind with ⟨hkd, rfl⟩ | ⟨hkd, rfl⟩ | ⟨hkd, rfl⟩
    · rw [hkd] at t0 HMany
      unfold labelT at t0 HMany
      go_enter Tryz.func27, Tryz.ntmps27
      go_wp2_with (go_at_call 61; (with_reducible refine (HMany.out _).mono ?_); rintro e w' ⟨rfl, rfl⟩)
      go_loopw [8, 9] (fun v i wr => ∃ k : Nat, 1 ≤ k ∧ k ≤ 3 ∧ i = .int .i64 k ∧ (∀ j, 1 ≤ j → j < k → badAt c l en j = none) ∧ wr.ownsRow w.heap.size 3 1 v (k - 1) ((foundN c l (k - 1)).map (Value.int .i64)) ∧ Below w.heap.size w wr) (fun _ i _ => 3 - (intOf i).toNat)
      case atStart => exact ⟨1, Nat.le_refl _, by omega, rfl, fun j h1 h2 => absurd h2 (by omega), World.ownsRow_nil _ _ _ _, Below.refl _ _⟩
      case round =>
        obtain ⟨k, hk1, hk, rfl, hj2, hO, hB⟩ := hrel
        have HJ := Lib.hid hj2
        have HO := Lib.hid hO
        have BW := Lib.hid hB
        clear hj2 hO hB
        by_cases hkN : k < 3
        · by_cases hlen : l.length ≤ k
          · have HE := Lib.hid (lineN_bad (l := l) HNe.out hk1 (by rw [HN.out]; exact hkN) HJ.out (badAt_short (c := c) (en := en) hlen))
            have q1 : (l.length : Int) ≤ (k : Int) := by omega
            have q2 : decide ((l.length : Int) ≤ (k : Int)) = true := by simp; omega
            have HB5 := Lib.hid ((HPB.out).below BW.out)
            rw [HE.out]
            obtain ⟨w3, hw3⟩ : ∃ w3 : World, w3 = wr := ⟨_, rfl⟩
            subst hw3
            go_wp2
            go_ret
            exact ⟨rfl, HB5.out, BW.out.mono HBase.out⟩
          · have hkl : k < l.length := by omega
            have q2 : decide ((l.length : Int) ≤ (k : Int)) = false := by simp; omega
            have HSz1 := HSz.out k hkl
            have HBd := Lib.hid (fun p (h : badAt c l en k = some p) => lineN_bad (l := l) HNe.out hk1 (by rw [HN.out]; exact hkN) HJ.out h)
            have HYe : Hid (badAt c l en k = none → ∀ j, 1 ≤ j → j < k + 1 → badAt c l en j = none) := Lib.hid (fun h j h1 h2 => by
              by_cases e : j = k
              · subst e; exact h
              · exact HJ.out j h1 (by omega))
            have HFm : Hid (foundN c l (k - 1 + 1) = foundN c l (k - 1) ++ [findN c.names (wAt l k).1]) := Lib.hid (by
              rw [foundN_more, show k - 1 + 1 = k by omega])
            have HTx := Lib.hid (fun w1 (hb : Below w.heap.size w w1) => HWd.out w1 hb k hkl)
            have HW0 := Lib.hid (fun w1 (hb : Below w.heap.size w w1) => show w1.cell? ⟨g, 0, none⟩ = some (.string ⟨(wAt l 0).1.toArray⟩) by
              have := (HWd.out w1 hb 0 (by omega)).1
              simpa using this)
            have i1 : (k : Int) < (l.length : Int) := by omega
            have i0 : (0 : Int) ≤ (k : Int) := by omega
            rw [hkd] at HW0
            obtain ⟨t1, p1⟩ := HTx.out wr BW.out
            have c0 := HPC.out wr BW.out
            have d0 := HW0.out wr BW.out
            obtain ⟨z, hz⟩ : ∃ z, findN c.names (wAt l k).1 = z := ⟨_, rfl⟩
            have HBa1 := Lib.hid (fun (h : k = 1) => show badAt c l en k = _ by subst h; exact badAt_one (c := c) (en := en) hkl hkd)
            have HBa2 := Lib.hid (fun (h : k = 2) => show badAt c l en k = _ by subst h; exact badAt_two (c := c) (en := en) hkl hkd)
            have HNm := Lib.hid (fun w1 => r5Name_any (wAt l k).1 w1 (by omega))
            have HNu := Lib.hid (fun w1 => r5number_any (wAt l k).1 w1 (by omega))
            have HFd2 := Lib.hid (fun w1 hb => HFd.out w1 hb (wAt l k).1)
            unfold labelT at d0 HW0
            have hk12 : k = 1 ∨ k = 2 := by omega
            rcases hk12 with rfl | rfl
            · have HBa := HBa1.out rfl
              simp only [Nat.one_mul, Nat.reduceAdd] at t1 p1 HTx
              rw [hz] at HBa HFm HFd2
              clear hz HBa1 HBa2
              generalize (wAt l 1).1 = t at t1 HTx HFd2 HSz1 HNm HNu HBa
              generalize (wAt l 1).2 = p at p1 HTx HBa
              generalize nameB t = nm at HNm HBa
              generalize quotaN t = qn at HNu
              cases nm
              · rw [if_pos (.inl rfl)] at HBa
                have HE := Lib.hid (HBd.out _ HBa)
                rw [HE.out]
                clear HBa
                go_wp2_with (first
                  | (go_at_call 42; (with_reducible refine (HFd2.out _ BW.out).mono ?_); rintro e w' ⟨rfl, rfl⟩)
                  | (at_builtin; refine wpList_append_own _ rfl (.tmp 46) (.tmp 48) 25 rfl w.heap.size 3 j0 (.int .i64 0) 1 8 Tryz.underlying25 hj jz0 jz1 jz2 rfl (by decide) _ (1 - 1) _ rfl (HO.out.alloc _) ⟨wr.heap.size, 0, none⟩ 1 1 [.int .i64 z] rfl rfl ?_ ?_ ?_ ?_ ?_ ?_; (exact cells1_new5 _ _ _); (intro u hu; simp at hu; subst hu; rfl); (unfold maxLen; omega); (omega); (have hq := BW.out.size; simp; omega); intro v6 w6 h7 h8 h9; have B6 := Lib.hid (below_own5 (BW.out.alloc BW.out.size (.cells #[.int .i64 z] 3)) h8 (HO.out.alloc (.cells #[.int .i64 z] 3)) (by have hq := BW.out.size; simp; omega)); have O6 := Lib.hid h7; obtain ⟨t1, p1⟩ := HTx.out w6 B6.out; have c0 := HPC.out w6 B6.out; have d0 := HW0.out w6 B6.out; clear h7 h8 h9)
                  | (go_at_call 14; (with_reducible refine (HNm.out _).mono ?_); rintro e w7 ⟨rfl, h7⟩; have B7 := Lib.hid (below_step B6.out h7); have O7 := Lib.hid (own_bel O6.out h7); clear t1 p1 c0 d0; obtain ⟨t1, p1⟩ := HTx.out w7 B7.out; have c0 := HPC.out w7 B7.out; clear h7)
                  | (go_at_call 62; (with_reducible refine (HNu.out _).mono ?_); rintro e w' ⟨rfl, rfl⟩))
                go_ret
                exact ⟨rfl, HPB.out.below B7.out, B7.out.mono HBase.out⟩
              · by_cases hz0 : 0 ≤ z
                · rw [if_pos (.inr (.inl hz0))] at HBa
                  have HE := Lib.hid (HBd.out _ HBa)
                  have e0 : decide (0 ≤ z) = true := by simpa using hz0
                  clear hz0
                  rw [HE.out]
                  clear HBa
                  go_wp2_with (first
                    | (go_at_call 42; (with_reducible refine (HFd2.out _ BW.out).mono ?_); rintro e w' ⟨rfl, rfl⟩)
                    | (at_builtin; refine wpList_append_own _ rfl (.tmp 46) (.tmp 48) 25 rfl w.heap.size 3 j0 (.int .i64 0) 1 8 Tryz.underlying25 hj jz0 jz1 jz2 rfl (by decide) _ (1 - 1) _ rfl (HO.out.alloc _) ⟨wr.heap.size, 0, none⟩ 1 1 [.int .i64 z] rfl rfl ?_ ?_ ?_ ?_ ?_ ?_; (exact cells1_new5 _ _ _); (intro u hu; simp at hu; subst hu; rfl); (unfold maxLen; omega); (omega); (have hq := BW.out.size; simp; omega); intro v6 w6 h7 h8 h9; have B6 := Lib.hid (below_own5 (BW.out.alloc BW.out.size (.cells #[.int .i64 z] 3)) h8 (HO.out.alloc (.cells #[.int .i64 z] 3)) (by have hq := BW.out.size; simp; omega)); have O6 := Lib.hid h7; obtain ⟨t1, p1⟩ := HTx.out w6 B6.out; have c0 := HPC.out w6 B6.out; have d0 := HW0.out w6 B6.out; clear h7 h8 h9)
                    | (go_at_call 14; (with_reducible refine (HNm.out _).mono ?_); rintro e w7 ⟨rfl, h7⟩; have B7 := Lib.hid (below_step B6.out h7); have O7 := Lib.hid (own_bel O6.out h7); clear t1 p1 c0 d0; obtain ⟨t1, p1⟩ := HTx.out w7 B7.out; have c0 := HPC.out w7 B7.out; clear h7)
                    | (go_at_call 62; (with_reducible refine (HNu.out _).mono ?_); rintro e w' ⟨rfl, rfl⟩))
                  go_ret
                  exact ⟨rfl, HPB.out.below B7.out, B7.out.mono HBase.out⟩
                · by_cases h64 : 64 ≤ c.names.length
                  · rw [if_pos (.inr (.inr h64))] at HBa
                    have HE := Lib.hid (HBd.out _ HBa)
                    have e0 : decide (0 ≤ z) = false := by simpa using hz0
                    have e1 : decide (64 ≤ (c.names.length : Int)) = true := by simp; omega
                    clear hz0 h64
                    rw [HE.out]
                    clear HBa
                    go_wp2_with (first
                      | (go_at_call 42; (with_reducible refine (HFd2.out _ BW.out).mono ?_); rintro e w' ⟨rfl, rfl⟩)
                      | (at_builtin; refine wpList_append_own _ rfl (.tmp 46) (.tmp 48) 25 rfl w.heap.size 3 j0 (.int .i64 0) 1 8 Tryz.underlying25 hj jz0 jz1 jz2 rfl (by decide) _ (1 - 1) _ rfl (HO.out.alloc _) ⟨wr.heap.size, 0, none⟩ 1 1 [.int .i64 z] rfl rfl ?_ ?_ ?_ ?_ ?_ ?_; (exact cells1_new5 _ _ _); (intro u hu; simp at hu; subst hu; rfl); (unfold maxLen; omega); (omega); (have hq := BW.out.size; simp; omega); intro v6 w6 h7 h8 h9; have B6 := Lib.hid (below_own5 (BW.out.alloc BW.out.size (.cells #[.int .i64 z] 3)) h8 (HO.out.alloc (.cells #[.int .i64 z] 3)) (by have hq := BW.out.size; simp; omega)); have O6 := Lib.hid h7; obtain ⟨t1, p1⟩ := HTx.out w6 B6.out; have c0 := HPC.out w6 B6.out; have d0 := HW0.out w6 B6.out; clear h7 h8 h9)
                      | (go_at_call 14; (with_reducible refine (HNm.out _).mono ?_); rintro e w7 ⟨rfl, h7⟩; have B7 := Lib.hid (below_step B6.out h7); have O7 := Lib.hid (own_bel O6.out h7); clear t1 p1 c0 d0; obtain ⟨t1, p1⟩ := HTx.out w7 B7.out; have c0 := HPC.out w7 B7.out; clear h7)
                      | (go_at_call 62; (with_reducible refine (HNu.out _).mono ?_); rintro e w' ⟨rfl, rfl⟩))
                    go_ret
                    exact ⟨rfl, HPB.out.below B7.out, B7.out.mono HBase.out⟩
                  · rw [if_neg (by simp; omega)] at HBa
                    have HE := Lib.hid (HYe.out HBa)
                    have e0 : decide (0 ≤ z) = false := by simpa using hz0
                    have e1 : decide (64 ≤ (c.names.length : Int)) = false := by simp; omega
                    clear hz0 h64
                    clear HBa
                    go_wp2_with (first
                      | (go_at_call 42; (with_reducible refine (HFd2.out _ BW.out).mono ?_); rintro e w' ⟨rfl, rfl⟩)
                      | (at_builtin; refine wpList_append_own _ rfl (.tmp 46) (.tmp 48) 25 rfl w.heap.size 3 j0 (.int .i64 0) 1 8 Tryz.underlying25 hj jz0 jz1 jz2 rfl (by decide) _ (1 - 1) _ rfl (HO.out.alloc _) ⟨wr.heap.size, 0, none⟩ 1 1 [.int .i64 z] rfl rfl ?_ ?_ ?_ ?_ ?_ ?_; (exact cells1_new5 _ _ _); (intro u hu; simp at hu; subst hu; rfl); (unfold maxLen; omega); (omega); (have hq := BW.out.size; simp; omega); intro v6 w6 h7 h8 h9; have B6 := Lib.hid (below_own5 (BW.out.alloc BW.out.size (.cells #[.int .i64 z] 3)) h8 (HO.out.alloc (.cells #[.int .i64 z] 3)) (by have hq := BW.out.size; simp; omega)); have O6 := Lib.hid h7; obtain ⟨t1, p1⟩ := HTx.out w6 B6.out; have c0 := HPC.out w6 B6.out; have d0 := HW0.out w6 B6.out; clear h7 h8 h9)
                      | (go_at_call 14; (with_reducible refine (HNm.out _).mono ?_); rintro e w7 ⟨rfl, h7⟩; have B7 := Lib.hid (below_step B6.out h7); have O7 := Lib.hid (own_bel O6.out h7); clear t1 p1 c0 d0; obtain ⟨t1, p1⟩ := HTx.out w7 B7.out; have c0 := HPC.out w7 B7.out; clear h7)
                      | (go_at_call 62; (with_reducible refine (HNu.out _).mono ?_); rintro e w' ⟨rfl, rfl⟩))
                    go_roundw
                    case rel =>
                      refine ⟨1 + 1, by omega, by omega, by go_num, HE.out, ?_, B7.out⟩
                      rw [show 1 + 1 - 1 = 1 - 1 + 1 by omega, HFm.out, List.map_append]
                      exact O7.out
                    case measure => simp [intOf]
            · have HBa := HBa2.out rfl
              simp only [Nat.reduceAdd, Nat.reduceMul] at t1 p1 HTx
              rw [hz] at HFm HFd2
              clear hz HBa1 HBa2
              generalize (wAt l 2).1 = t at t1 HTx HFd2 HSz1 HNm HNu HBa
              generalize (wAt l 2).2 = p at p1 HTx HBa
              generalize nameB t = nm at HNm
              generalize quotaN t = qn at HNu HBa
              by_cases hq : qn < 0
              · rw [if_pos hq] at HBa
                have HE := Lib.hid (HBd.out _ HBa)
                have e0 : decide (qn < 0) = true := by simpa using hq
                clear hq
                rw [HE.out]
                clear HBa
                go_wp2_with (first
                  | (go_at_call 42; (with_reducible refine (HFd2.out _ BW.out).mono ?_); rintro e w' ⟨rfl, rfl⟩)
                  | (at_builtin; refine wpList_append_own _ rfl (.tmp 46) (.tmp 48) 25 rfl w.heap.size 3 j0 (.int .i64 0) 1 8 Tryz.underlying25 hj jz0 jz1 jz2 rfl (by decide) _ (2 - 1) _ rfl (HO.out.alloc _) ⟨wr.heap.size, 0, none⟩ 1 1 [.int .i64 z] rfl rfl ?_ ?_ ?_ ?_ ?_ ?_; (exact cells1_new5 _ _ _); (intro u hu; simp at hu; subst hu; rfl); (unfold maxLen; omega); (omega); (have hq := BW.out.size; simp; omega); intro v6 w6 h7 h8 h9; have B6 := Lib.hid (below_own5 (BW.out.alloc BW.out.size (.cells #[.int .i64 z] 3)) h8 (HO.out.alloc (.cells #[.int .i64 z] 3)) (by have hq := BW.out.size; simp; omega)); have O6 := Lib.hid h7; obtain ⟨t1, p1⟩ := HTx.out w6 B6.out; have c0 := HPC.out w6 B6.out; have d0 := HW0.out w6 B6.out; clear h7 h8 h9)
                  | (go_at_call 14; (with_reducible refine (HNm.out _).mono ?_); rintro e w7 ⟨rfl, h7⟩; have B7 := Lib.hid (below_step B6.out h7); have O7 := Lib.hid (own_bel O6.out h7); clear t1 p1 c0 d0; obtain ⟨t1, p1⟩ := HTx.out w7 B7.out; have c0 := HPC.out w7 B7.out; clear h7)
                  | (go_at_call 62; (with_reducible refine (HNu.out _).mono ?_); rintro e w' ⟨rfl, rfl⟩))
                go_ret
                exact ⟨rfl, HPB.out.below B7.out, B7.out.mono HBase.out⟩
              · rw [if_neg hq] at HBa
                have HE := Lib.hid (HYe.out HBa)
                have e0 : decide (qn < 0) = false := by simpa using hq
                clear hq
                clear HBa
                go_wp2_with (first
                  | (go_at_call 42; (with_reducible refine (HFd2.out _ BW.out).mono ?_); rintro e w' ⟨rfl, rfl⟩)
                  | (at_builtin; refine wpList_append_own _ rfl (.tmp 46) (.tmp 48) 25 rfl w.heap.size 3 j0 (.int .i64 0) 1 8 Tryz.underlying25 hj jz0 jz1 jz2 rfl (by decide) _ (2 - 1) _ rfl (HO.out.alloc _) ⟨wr.heap.size, 0, none⟩ 1 1 [.int .i64 z] rfl rfl ?_ ?_ ?_ ?_ ?_ ?_; (exact cells1_new5 _ _ _); (intro u hu; simp at hu; subst hu; rfl); (unfold maxLen; omega); (omega); (have hq := BW.out.size; simp; omega); intro v6 w6 h7 h8 h9; have B6 := Lib.hid (below_own5 (BW.out.alloc BW.out.size (.cells #[.int .i64 z] 3)) h8 (HO.out.alloc (.cells #[.int .i64 z] 3)) (by have hq := BW.out.size; simp; omega)); have O6 := Lib.hid h7; obtain ⟨t1, p1⟩ := HTx.out w6 B6.out; have c0 := HPC.out w6 B6.out; have d0 := HW0.out w6 B6.out; clear h7 h8 h9)
                  | (go_at_call 14; (with_reducible refine (HNm.out _).mono ?_); rintro e w7 ⟨rfl, h7⟩; have B7 := Lib.hid (below_step B6.out h7); have O7 := Lib.hid (own_bel O6.out h7); clear t1 p1 c0 d0; obtain ⟨t1, p1⟩ := HTx.out w7 B7.out; have c0 := HPC.out w7 B7.out; clear h7)
                  | (go_at_call 62; (with_reducible refine (HNu.out _).mono ?_); rintro e w' ⟨rfl, rfl⟩))
                go_roundw
                case rel =>
                  refine ⟨2 + 1, by omega, by omega, by go_num, HE.out, ?_, B7.out⟩
                  rw [show 2 + 1 - 1 = 2 - 1 + 1 by omega, HFm.out, List.map_append]
                  exact O7.out
                case measure => simp [intOf]
        · obtain rfl : k = 3 := by omega
          have HOv := Lib.hid HO.out
          obtain ⟨w3, hw3⟩ : ∃ w3 : World, w3 = wr := ⟨_, rfl⟩
          subst hw3
          by_cases hmore : 3 < l.length
          · have HE := Lib.hid (lineN_more (l := l) (c := c) (en := en) HNe.out (by rw [HN.out]; exact HJ.out) (by rw [HN.out]; exact hmore))
            rw [HN.out] at HE
            obtain ⟨t3, p3⟩ := HWd.out w3 BW.out 3 hmore
            simp only [Nat.reduceMul, Nat.reduceAdd] at t3 p3
            have q2 : decide ((3 : Int) < (l.length : Int)) = true := by simp; omega
            have i1 : (3 : Int) < (l.length : Int) := by omega
            go_wp2
            go_ret
            rw [HE.out]
            exact ⟨rfl, HPB.out.below BW.out, BW.out.mono HBase.out⟩
          · have HE := Lib.hid (lineN_good (l := l) (c := c) (en := en) HNe.out (by rw [HN.out]; exact HJ.out) (by rw [HN.out]; exact hmore))
            have q2 : decide ((3 : Int) < (l.length : Int)) = false := by simp; omega
            have hlenN : 3 ≤ l.length := by
              apply Classical.byContradiction
              intro hn
              have := HJ.out 2 (by omega) (by omega)
              rw [badAt_short (by omega)] at this
              cases this
            obtain ⟨d0, _⟩ := HWd.out w3 BW.out 0 (by omega)
            simp only [Nat.zero_mul] at d0
            rw [hkd] at d0
            unfold labelT at d0
            have hf : doLine c l = { names := c.names ++ [(wAt l 1).1], up := c.up ++ [2 ^ c.up.length], quotas := c.quotas ++ [quotaN (wAt l 2).1], grants := c.grants } := by unfold doLine; rw [if_pos hkd]; rfl
            have HDo := Lib.hid hf
            have hW3 := HWR.out.below BW.out
            have HX3 := Lib.hid (HX.out.below BW.out)
            have HW3 := Lib.hid hW3
            have HNu := Lib.hid (fun w1 => r5number_any (wAt l 2).1 w1 (by have := HSz.out 2 (by omega); omega))
            have hups := HOK.out.ups
            have hquo := HOK.out.quo
            have h64 : c.names.length < 64 := by
              have := HJ.out 1 (by omega) (by omega)
              rw [badAt_one (by omega) hkd] at this
              apply Classical.byContradiction
              intro hn
              rw [if_pos (.inr (.inr (by omega)))] at this
              cases this
            have HOne := Lib.hid (fun w1 => r3One_any c.up.length w1 (by omega))
            have HWc := Lib.hid (fun w1 (h : WR w1 g cap l) => show w1.cell? ⟨g, 2, none⟩ = some (.string ⟨(wAt l 1).1.toArray⟩) ∧ w1.cell? ⟨g, 4, none⟩ = some (.string ⟨(wAt l 2).1.toArray⟩) by
              have h1 := (h.word 1 (by omega)).1
              have h2 := (h.word 2 (by omega)).1
              simp only [Nat.one_mul, Nat.reduceMul] at h1 h2
              exact ⟨h1, h2⟩)
            clear hW3 hf
            generalize (wAt l 1).1 = x1 at HDo HWc
            generalize (wAt l 2).1 = x2 at HDo HWc HNu
            generalize quotaN x2 = qv at HDo HNu
            obtain ⟨k0, hk0, kz0, kz1, kz2⟩ := info_parts strinfo5
            obtain ⟨m0, hm0, mz0, mz1, mz2⟩ := info_parts u64info5
            have i1 : (1 : Int) < (l.length : Int) := by omega
            have i2 : (2 : Int) < (l.length : Int) := by omega
            have HB3 := Lib.hid (BW.out.mono HBase.out)
            have HbW : Hid (base ≤ w3.heap.size) := Lib.hid (Nat.le_trans HBase.out BW.out.size)
            obtain ⟨uA, uc, rfl⟩ := own_sl HX3.out.2.2.2.1
            obtain ⟨qA, qc, rfl⟩ := own_sl HX3.out.2.2.2.2.1
            have HL6 : Hid (c.names.length ≤ 64 ∧ c.up.length ≤ 64 ∧ c.quotas.length ≤ 64) := Lib.hid (by omega)
            clear hups hquo
            have hl6a := HL6.out.1
            have hl6b := HL6.out.2.1
            have hl6c := HL6.out.2.2
            have hCn : (fun w' : World => w'.cell? ⟨P, 0, none⟩ = some (.slice nA c.names.length nc) ∧ w'.cell? ⟨g, 2, none⟩ = some (.string ⟨x1.toArray⟩)) w3.drew := ⟨(show w3.drew.cell? ⟨P, 0, none⟩ = some (.slice nA c.names.length nc) by rw [HX3.out.1.drew.cell]; simp), (HWc.out _ (own_bel HW3.out (Below.refl _ _).drew)).1⟩
            have Xna := Lib.hid (HX3.out.below ((Below.refl _ w3).alloc (Nat.le_refl _) (.cells #[.string ⟨x1.toArray⟩] 9)).drew)
            have Wna := Lib.hid (WR.below HW3.out ((Below.refl _ w3).alloc (Nat.le_refl _) (.cells #[.string ⟨x1.toArray⟩] 9)).drew)
            have Bna := Lib.hid (HB3.out.alloc HbW.out (.cells #[.string ⟨x1.toArray⟩] 9)).drew
            have hCna : (fun w' : World => w'.cell? ⟨P, 0, none⟩ = some (.slice nA c.names.length nc) ∧ w'.cell? ⟨g, 2, none⟩ = some (.string ⟨x1.toArray⟩)) (w3.alloc (.cells #[.string ⟨x1.toArray⟩] 9)).drew := ⟨(show (w3.alloc (.cells #[.string ⟨x1.toArray⟩] 9)).drew.cell? ⟨P, 0, none⟩ = some (.slice nA c.names.length nc) by rw [Xna.out.1.cell]; simp), (HWc.out _ Wna.out).1⟩
            go_wp2
            rename_i K hK
            refine wp_heldK (fun w' : World => w'.cell? ⟨P, 0, none⟩ = some (.slice nA c.names.length nc) ∧ w'.cell? ⟨g, 2, none⟩ = some (.string ⟨x1.toArray⟩)) 11 K hmx ?_ (fun _ _ h => h)
            refine wpAnyK_pure (i := 0) (v := .pointer (some ⟨P, 0, none⟩)) rfl (by kernel_rfl) (by kernel_rfl) (by kernel_rfl) (by decide) (fun _ _ _ h => h) (Or.inl ⟨by rfl, ?_⟩) (.inr hCn) ?_
            · intro w6 _
              go_simp
            simp only [Act.put, List.setIfInBounds_toArray, List.set_cons_zero, List.set_cons_succ, List.getElem_toArray, List.getElem_cons_zero]
            refine wpAnyK_pure (i := 1) (v := .pointer (some ⟨P, 0, none⟩)) rfl (by kernel_rfl) (by kernel_rfl) (by kernel_rfl) (by decide) (fun _ _ _ h => h) (Or.inl ⟨by rfl, ?_⟩) (.inr hCn) ?_
            · intro w6 _
              go_simp
            simp only [Act.put, List.setIfInBounds_toArray, List.set_cons_zero, List.set_cons_succ, List.getElem_toArray, List.getElem_cons_zero, List.getElem_cons_succ]
            refine wpAnyK_pure (i := 2) (v := .pointer (some ⟨P, 0, none⟩)) rfl (by kernel_rfl) (by kernel_rfl) (by kernel_rfl) (by decide) (fun _ _ _ h => h) (Or.inl ⟨by rfl, ?_⟩) (.inr hCn) ?_
            · intro w6 _
              go_simp
            simp only [Act.put, List.setIfInBounds_toArray, List.set_cons_zero, List.set_cons_succ, List.getElem_toArray, List.getElem_cons_zero, List.getElem_cons_succ]
            refine wpAnyK_pure (i := 3) (v := .pointer (some ⟨P, 0, none⟩)) rfl (by kernel_rfl) (by kernel_rfl) (by kernel_rfl) (by decide) (fun _ _ _ h => h) (Or.inl ⟨by rfl, ?_⟩) (.inr hCn) ?_
            · intro w6 _
              go_simp
            simp only [Act.put, List.setIfInBounds_toArray, List.set_cons_zero, List.set_cons_succ, List.getElem_toArray, List.getElem_cons_zero, List.getElem_cons_succ]
            refine wpAnyK_pure (i := 4) (v := .pointer (some ⟨P, 0, none⟩)) rfl (by kernel_rfl) (by kernel_rfl) (by kernel_rfl) (by decide) (fun _ _ _ h => h) (Or.inl ⟨by rfl, ?_⟩) (.inr hCn) ?_
            · intro w6 _
              go_simp
            simp only [Act.put, List.setIfInBounds_toArray, List.set_cons_zero, List.set_cons_succ, List.getElem_toArray, List.getElem_cons_zero, List.getElem_cons_succ]
            refine wpAnyK_take (i := 5) (v := .slice nA c.names.length nc) rfl (by kernel_rfl) (by kernel_rfl) (by kernel_rfl) (by kernel_rfl) (by decide) (by kernel_rfl) (fun _ _ _ h => h) (Or.inl ⟨by rfl, ?_⟩) hCn ?_
            · rintro w6 ⟨c1, c2⟩
              go_simp
            simp only [Act.put, List.setIfInBounds_toArray, List.set_cons_zero, List.set_cons_succ, List.getElem_toArray, List.getElem_cons_zero, List.getElem_cons_succ]
            refine wpAnyK_pure (i := 6) (v := .slice (some ⟨g, 0, none⟩) l.length cap) rfl (by kernel_rfl) (by kernel_rfl) (by kernel_rfl) (by decide) (fun _ _ _ h => h) (Or.inl ⟨by rfl, ?_⟩) (.inr hCn) ?_
            · intro w6 _
              go_simp
            simp only [Act.put, List.setIfInBounds_toArray, List.set_cons_zero, List.set_cons_succ, List.getElem_toArray, List.getElem_cons_zero, List.getElem_cons_succ]
            refine wpAnyK_pure (i := 7) (v := .pointer (some ⟨g, 2, none⟩)) rfl (by kernel_rfl) (by kernel_rfl) (by kernel_rfl) (by decide) (fun _ _ _ h => h) (Or.inl ⟨by rfl, ?_⟩) (.inr hCn) ?_
            · intro w6 _
              go_simp
            simp only [Act.put, List.setIfInBounds_toArray, List.set_cons_zero, List.set_cons_succ, List.getElem_toArray, List.getElem_cons_zero, List.getElem_cons_succ]
            refine wpAnyK_pure (i := 8) (v := .pointer (some ⟨g, 2, none⟩)) rfl (by kernel_rfl) (by kernel_rfl) (by kernel_rfl) (by decide) (fun _ _ _ h => h) (Or.inl ⟨by rfl, ?_⟩) (.inr hCn) ?_
            · intro w6 _
              go_simp
            simp only [Act.put, List.setIfInBounds_toArray, List.set_cons_zero, List.set_cons_succ, List.getElem_toArray, List.getElem_cons_zero, List.getElem_cons_succ]
            refine wpAnyK_one (i := 9) (by kernel_rfl) rfl (fun K5 hK5 => ?_)
            have cw := hCn.2
            go_simp
            refine hK5.out _ _ (.inr hCn) ?_
            clear hK5 K5 cw
            refine wpAnyK_one (i := 10) (by kernel_rfl) rfl (fun K5 hK5 => ?_)
            go_simp
            refine hK5.out _ _ (.inr hCna) ?_
            clear hK5 K5
            refine wpAnyK_one (i := 11) (by kernel_rfl) rfl (fun K5 hK5 => ?_)
            refine step_append_lies _ rfl (.tmp 129) (.tmp 134) 23 rfl base 9 k0 (.string ⟨#[]⟩) 1 16 Tryz.underlying23 hk0 kz0 kz1 kz2 rfl (by decide) (.slice nA c.names.length nc) c.names.length _ rfl Xna.out.2.2.1 ⟨w3.heap.size, 0, none⟩ 1 1 [strV x1] rfl rfl (cells1_new5 w3 _ _) (by intro u hu; simp at hu; subst hu; rfl) (by omega) (by unfold maxLen; omega) (by omega) (by have := HbW.out; show base ≤ (w3.alloc (.cells #[.string ⟨x1.toArray⟩] 9)).drew.heap.size; simp; omega) _ rfl ?_
            intro gn capn wnn h7 h8 h9 h10
            have h8' : (w3.alloc (.cells #[.string ⟨x1.toArray⟩] 9)).drew.grownBy wnn (Value.ownBlock (.slice nA c.names.length nc)) := h8
            have An := PBx.app0 Xna.out h7 h8'
            have Rn := WR.app Wna.out Xna.out.2.2.1 (by decide) h8'
            have Fn := Lib.hid (And.intro An.1 (And.intro (Rn.set (i := 0) (u := .slice (some ⟨gn, 0, none⟩) (c.names.length + 1) capn) An.2) ((below_own5 Bna.out h8' Xna.out.2.2.1 (by have := HbW.out; simp; omega)).setCell (p := ⟨P, 0, none⟩) An.1.2.1 (.slice (some ⟨gn, 0, none⟩) (c.names.length + 1) capn))))
            have cn : wnn.cell? ⟨P, 0, none⟩ = some (.slice nA c.names.length nc) := by rw [An.2.cell]; simp
            have fn := An.2.free 0
            clear h7 h8 h8' h9 h10 An Rn
            refine hK5.out _ _ (.inl (by kernel_rfl)) ?_
            clear hK5 K5
            simp only [Act.put, List.setIfInBounds_toArray, List.set_cons_zero, List.set_cons_succ, List.getElem_toArray, List.getElem_cons_zero, List.getElem_cons_succ]
            refine wpAnyK_pure (i := 12) (v := .pointer (some ⟨P, 0, none⟩)) rfl (by kernel_rfl) (by kernel_rfl) (by kernel_rfl) (by decide) (fun _ _ _ h => h) (Or.inl ⟨by rfl, ?_⟩) (.inl (by kernel_rfl)) ?_
            · intro w6 _
              go_simp
            simp only [Act.put, List.setIfInBounds_toArray, List.set_cons_zero, List.set_cons_succ, List.getElem_toArray, List.getElem_cons_zero, List.getElem_cons_succ]
            refine wpAnyK_pure (i := 13) (v := .pointer (some ⟨P, 0, none⟩)) rfl (by kernel_rfl) (by kernel_rfl) (by kernel_rfl) (by decide) (fun _ _ _ h => h) (Or.inl ⟨by rfl, ?_⟩) (.inl (by kernel_rfl)) ?_
            · intro w6 _
              go_simp
            simp only [Act.put, List.setIfInBounds_toArray, List.set_cons_zero, List.set_cons_succ, List.getElem_toArray, List.getElem_cons_zero, List.getElem_cons_succ]
            refine wpAnyK_pure (i := 14) (v := .pointer (some ⟨P, 0, none⟩)) rfl (by kernel_rfl) (by kernel_rfl) (by kernel_rfl) (by decide) (fun _ _ _ h => h) (Or.inl ⟨by rfl, ?_⟩) (.inl (by kernel_rfl)) ?_
            · intro w6 _
              go_simp
            simp only [Act.put, List.setIfInBounds_toArray, List.set_cons_zero, List.set_cons_succ, List.getElem_toArray, List.getElem_cons_zero, List.getElem_cons_succ]
            refine wpAnyK_one (i := 15) (by kernel_rfl) rfl (fun K5 hK5 => ?_)
            go_simp
            refine hK5.out _ _ (.inl (by kernel_rfl)) ?_
            clear hK5 K5
            refine wpAnyK_done (by kernel_rfl) ?_ _
            refine hK _ _ ?_
            clear hK K
            generalize wnn.setCell ⟨P, 0, none⟩ (.slice (some ⟨gn, 0, none⟩) (c.names.length + 1) capn) = Wn at Fn ⊢
            have Xn := Lib.hid Fn.out.1
            have Dn := Lib.hid Fn.out.2.1
            have Bn := Lib.hid Fn.out.2.2
            have Qn : Hid (base ≤ Wn.heap.size) := Lib.hid (Nat.le_trans hbw Bn.out.size)
            clear Fn cn fn hCn hCna Xna Wna Bna
            have hCq : (fun w' : World => w'.cell? ⟨P, 2, none⟩ = some (.slice qA c.quotas.length qc) ∧ w'.cell? ⟨g, 4, none⟩ = some (.string ⟨x2.toArray⟩)) Wn.drew := ⟨(show Wn.drew.cell? ⟨P, 2, none⟩ = some (.slice qA c.quotas.length qc) by rw [Xn.out.1.drew.cell]; simp), (HWc.out _ (own_bel Dn.out (Below.refl _ _).drew)).2⟩
            have Xqa := Lib.hid (Xn.out.below ((Below.refl _ Wn).alloc (Nat.le_refl _) (.cells #[.int .i64 qv] 3)).drew)
            have Wqa := Lib.hid (WR.below Dn.out ((Below.refl _ Wn).alloc (Nat.le_refl _) (.cells #[.int .i64 qv] 3)).drew)
            have Bqa := Lib.hid (Bn.out.alloc Qn.out (.cells #[.int .i64 qv] 3)).drew
            have hCqa : (fun w' : World => w'.cell? ⟨P, 2, none⟩ = some (.slice qA c.quotas.length qc) ∧ w'.cell? ⟨g, 4, none⟩ = some (.string ⟨x2.toArray⟩)) (Wn.alloc (.cells #[.int .i64 qv] 3)).drew := ⟨(show (Wn.alloc (.cells #[.int .i64 qv] 3)).drew.cell? ⟨P, 2, none⟩ = some (.slice qA c.quotas.length qc) by rw [Xqa.out.1.cell]; simp), (HWc.out _ Wqa.out).2⟩
            go_wp2
            rename_i K hK
            refine wp_heldK (fun w' : World => w'.cell? ⟨P, 2, none⟩ = some (.slice qA c.quotas.length qc) ∧ w'.cell? ⟨g, 4, none⟩ = some (.string ⟨x2.toArray⟩)) 12 K hmx ?_ (fun _ _ h => h)
            refine wpAnyK_pure (i := 0) (v := .pointer (some ⟨P, 0, none⟩)) rfl (by kernel_rfl) (by kernel_rfl) (by kernel_rfl) (by decide) (fun _ _ _ h => h) (Or.inl ⟨by rfl, ?_⟩) (.inr hCq) ?_
            · intro w6 _
              go_simp
            simp only [Act.put, List.setIfInBounds_toArray, List.set_cons_zero, List.set_cons_succ, List.getElem_toArray, List.getElem_cons_zero]
            refine wpAnyK_pure (i := 1) (v := .pointer (some ⟨P, 0, none⟩)) rfl (by kernel_rfl) (by kernel_rfl) (by kernel_rfl) (by decide) (fun _ _ _ h => h) (Or.inl ⟨by rfl, ?_⟩) (.inr hCq) ?_
            · intro w6 _
              go_simp
            simp only [Act.put, List.setIfInBounds_toArray, List.set_cons_zero, List.set_cons_succ, List.getElem_toArray, List.getElem_cons_zero, List.getElem_cons_succ]
            refine wpAnyK_pure (i := 2) (v := .pointer (some ⟨P, 0, none⟩)) rfl (by kernel_rfl) (by kernel_rfl) (by kernel_rfl) (by decide) (fun _ _ _ h => h) (Or.inl ⟨by rfl, ?_⟩) (.inr hCq) ?_
            · intro w6 _
              go_simp
            simp only [Act.put, List.setIfInBounds_toArray, List.set_cons_zero, List.set_cons_succ, List.getElem_toArray, List.getElem_cons_zero, List.getElem_cons_succ]
            refine wpAnyK_pure (i := 3) (v := .pointer (some ⟨P, 0, none⟩)) rfl (by kernel_rfl) (by kernel_rfl) (by kernel_rfl) (by decide) (fun _ _ _ h => h) (Or.inl ⟨by rfl, ?_⟩) (.inr hCq) ?_
            · intro w6 _
              go_simp
            simp only [Act.put, List.setIfInBounds_toArray, List.set_cons_zero, List.set_cons_succ, List.getElem_toArray, List.getElem_cons_zero, List.getElem_cons_succ]
            refine wpAnyK_pure (i := 4) (v := .pointer (some ⟨P, 2, none⟩)) rfl (by kernel_rfl) (by kernel_rfl) (by kernel_rfl) (by decide) (fun _ _ _ h => h) (Or.inl ⟨by rfl, ?_⟩) (.inr hCq) ?_
            · intro w6 _
              go_simp
            simp only [Act.put, List.setIfInBounds_toArray, List.set_cons_zero, List.set_cons_succ, List.getElem_toArray, List.getElem_cons_zero, List.getElem_cons_succ]
            refine wpAnyK_take (i := 5) (v := .slice qA c.quotas.length qc) rfl (by kernel_rfl) (by kernel_rfl) (by kernel_rfl) (by kernel_rfl) (by decide) (by kernel_rfl) (fun _ _ _ h => h) (Or.inl ⟨by rfl, ?_⟩) hCq ?_
            · rintro w6 ⟨c1, c2⟩
              go_simp
            simp only [Act.put, List.setIfInBounds_toArray, List.set_cons_zero, List.set_cons_succ, List.getElem_toArray, List.getElem_cons_zero, List.getElem_cons_succ]
            refine wpAnyK_pure (i := 6) (v := .slice (some ⟨g, 0, none⟩) l.length cap) rfl (by kernel_rfl) (by kernel_rfl) (by kernel_rfl) (by decide) (fun _ _ _ h => h) (Or.inl ⟨by rfl, ?_⟩) (.inr hCq) ?_
            · intro w6 _
              go_simp
            simp only [Act.put, List.setIfInBounds_toArray, List.set_cons_zero, List.set_cons_succ, List.getElem_toArray, List.getElem_cons_zero, List.getElem_cons_succ]
            refine wpAnyK_pure (i := 7) (v := .pointer (some ⟨g, 4, none⟩)) rfl (by kernel_rfl) (by kernel_rfl) (by kernel_rfl) (by decide) (fun _ _ _ h => h) (Or.inl ⟨by rfl, ?_⟩) (.inr hCq) ?_
            · intro w6 _
              go_simp
            simp only [Act.put, List.setIfInBounds_toArray, List.set_cons_zero, List.set_cons_succ, List.getElem_toArray, List.getElem_cons_zero, List.getElem_cons_succ]
            refine wpAnyK_pure (i := 8) (v := .pointer (some ⟨g, 4, none⟩)) rfl (by kernel_rfl) (by kernel_rfl) (by kernel_rfl) (by decide) (fun _ _ _ h => h) (Or.inl ⟨by rfl, ?_⟩) (.inr hCq) ?_
            · intro w6 _
              go_simp
            simp only [Act.put, List.setIfInBounds_toArray, List.set_cons_zero, List.set_cons_succ, List.getElem_toArray, List.getElem_cons_zero, List.getElem_cons_succ]
            refine wpAnyK_one (i := 9) (by kernel_rfl) rfl (fun K5 hK5 => ?_)
            have cw := hCq.2
            go_simp
            refine hK5.out _ _ (.inr hCq) ?_
            clear hK5 K5 cw
            refine wpAnyK_one (i := 10) (by kernel_rfl) rfl (fun K5 hK5 => ?_)
            go_simp
            go_at_call 62
            refine (HNu.out _).mono ?_
            rintro e w' ⟨rfl, rfl⟩
            refine hK5.out _ _ (.inr hCq) ?_
            clear hK5 K5
            refine wpAnyK_one (i := 11) (by kernel_rfl) rfl (fun K5 hK5 => ?_)
            go_simp
            refine hK5.out _ _ (.inr hCqa) ?_
            clear hK5 K5
            refine wpAnyK_one (i := 12) (by kernel_rfl) rfl (fun K5 hK5 => ?_)
            refine step_append_lies _ rfl (.tmp 144) (.tmp 150) 25 rfl base 3 j0 (.int .i64 0) 1 8 Tryz.underlying25 hj jz0 jz1 jz2 rfl (by decide) (.slice qA c.quotas.length qc) c.quotas.length _ rfl Xqa.out.2.2.2.2.1 ⟨Wn.heap.size, 0, none⟩ 1 1 [Value.int .i64 qv] rfl rfl (cells1_new5 Wn _ _) (by intro u hu; simp at hu; subst hu; rfl) (by omega) (by unfold maxLen; omega) (by omega) (by have := Qn.out; show base ≤ (Wn.alloc (.cells #[.int .i64 qv] 3)).drew.heap.size; simp; omega) _ rfl ?_
            intro gq capq wqn h7 h8 h9 h10
            have h8' : (Wn.alloc (.cells #[.int .i64 qv] 3)).drew.grownBy wqn (Value.ownBlock (.slice qA c.quotas.length qc)) := h8
            have Aq := PBx.app2 Xqa.out h7 h8'
            have Rq := WR.app Wqa.out Xqa.out.2.2.2.2.1 (by decide) h8'
            have Fq := Lib.hid (And.intro Aq.1 (And.intro (Rq.set (i := 2) (u := .slice (some ⟨gq, 0, none⟩) (c.quotas.length + 1) capq) Aq.2) ((below_own5 Bqa.out h8' Xqa.out.2.2.2.2.1 (by have := Qn.out; simp; omega)).setCell (p := ⟨P, 2, none⟩) Aq.1.2.1 (.slice (some ⟨gq, 0, none⟩) (c.quotas.length + 1) capq))))
            have cq : wqn.cell? ⟨P, 2, none⟩ = some (.slice qA c.quotas.length qc) := by rw [Aq.2.cell]; simp
            have fq := Aq.2.free 2
            clear h7 h8 h8' h9 h10 Aq Rq
            refine hK5.out _ _ (.inl (by kernel_rfl)) ?_
            clear hK5 K5
            simp only [Act.put, List.setIfInBounds_toArray, List.set_cons_zero, List.set_cons_succ, List.getElem_toArray, List.getElem_cons_zero, List.getElem_cons_succ]
            refine wpAnyK_pure (i := 13) (v := .pointer (some ⟨P, 0, none⟩)) rfl (by kernel_rfl) (by kernel_rfl) (by kernel_rfl) (by decide) (fun _ _ _ h => h) (Or.inl ⟨by rfl, ?_⟩) (.inl (by kernel_rfl)) ?_
            · intro w6 _
              go_simp
            simp only [Act.put, List.setIfInBounds_toArray, List.set_cons_zero, List.set_cons_succ, List.getElem_toArray, List.getElem_cons_zero, List.getElem_cons_succ]
            refine wpAnyK_pure (i := 14) (v := .pointer (some ⟨P, 0, none⟩)) rfl (by kernel_rfl) (by kernel_rfl) (by kernel_rfl) (by decide) (fun _ _ _ h => h) (Or.inl ⟨by rfl, ?_⟩) (.inl (by kernel_rfl)) ?_
            · intro w6 _
              go_simp
            simp only [Act.put, List.setIfInBounds_toArray, List.set_cons_zero, List.set_cons_succ, List.getElem_toArray, List.getElem_cons_zero, List.getElem_cons_succ]
            refine wpAnyK_pure (i := 15) (v := .pointer (some ⟨P, 2, none⟩)) rfl (by kernel_rfl) (by kernel_rfl) (by kernel_rfl) (by decide) (fun _ _ _ h => h) (Or.inl ⟨by rfl, ?_⟩) (.inl (by kernel_rfl)) ?_
            · intro w6 _
              go_simp
            simp only [Act.put, List.setIfInBounds_toArray, List.set_cons_zero, List.set_cons_succ, List.getElem_toArray, List.getElem_cons_zero, List.getElem_cons_succ]
            refine wpAnyK_one (i := 16) (by kernel_rfl) rfl (fun K5 hK5 => ?_)
            go_simp
            refine hK5.out _ _ (.inl (by kernel_rfl)) ?_
            clear hK5 K5
            refine wpAnyK_done (by kernel_rfl) ?_ _
            refine hK _ _ ?_
            clear hK K
            generalize wqn.setCell ⟨P, 2, none⟩ (.slice (some ⟨gq, 0, none⟩) (c.quotas.length + 1) capq) = Wq at Fq ⊢
            have Xq := Lib.hid Fq.out.1
            have Dq := Lib.hid Fq.out.2.1
            have Bq := Lib.hid Fq.out.2.2
            have Qq : Hid (base ≤ Wq.heap.size) := Lib.hid (Nat.le_trans hbw Bq.out.size)
            clear Fq cq fq hCq hCqa Xqa Wqa Bqa
            have hCu : (fun w' : World => w'.cell? ⟨P, 1, none⟩ = some (.slice uA c.up.length uc)) Wq.drew := (show Wq.drew.cell? ⟨P, 1, none⟩ = some (.slice uA c.up.length uc) by rw [Xq.out.1.drew.cell]; simp)
            have Xua := Lib.hid (Xq.out.below ((Below.refl _ Wq).alloc (Nat.le_refl _) (.cells #[.int .u64 ((2 ^ c.up.length : Nat) : Int)] 40)).drew)
            have Wua := Lib.hid (WR.below Dq.out ((Below.refl _ Wq).alloc (Nat.le_refl _) (.cells #[.int .u64 ((2 ^ c.up.length : Nat) : Int)] 40)).drew)
            have Bua := Lib.hid (Bq.out.alloc Qq.out (.cells #[.int .u64 ((2 ^ c.up.length : Nat) : Int)] 40)).drew
            have hCua : (fun w' : World => w'.cell? ⟨P, 1, none⟩ = some (.slice uA c.up.length uc)) (Wq.alloc (.cells #[.int .u64 ((2 ^ c.up.length : Nat) : Int)] 40)).drew := (show (Wq.alloc (.cells #[.int .u64 ((2 ^ c.up.length : Nat) : Int)] 40)).drew.cell? ⟨P, 1, none⟩ = some (.slice uA c.up.length uc) by rw [Xua.out.1.cell]; simp)
            go_wp2
            rename_i K hK
            refine wp_heldQ (fun w' : World => w'.cell? ⟨P, 1, none⟩ = some (.slice uA c.up.length uc)) 14 hmx ?_
            refine wpAnyK_pure (i := 0) (v := .pointer (some ⟨P, 0, none⟩)) rfl (by kernel_rfl) (by kernel_rfl) (by kernel_rfl) (by decide) (fun _ _ _ h => h) (Or.inl ⟨by rfl, ?_⟩) (.inr hCu) ?_
            · intro w6 _
              go_simp
            simp only [Act.put, List.setIfInBounds_toArray, List.set_cons_zero, List.set_cons_succ, List.getElem_toArray, List.getElem_cons_zero]
            refine wpAnyK_pure (i := 1) (v := .pointer (some ⟨P, 0, none⟩)) rfl (by kernel_rfl) (by kernel_rfl) (by kernel_rfl) (by decide) (fun _ _ _ h => h) (Or.inl ⟨by rfl, ?_⟩) (.inr hCu) ?_
            · intro w6 _
              go_simp
            simp only [Act.put, List.setIfInBounds_toArray, List.set_cons_zero, List.set_cons_succ, List.getElem_toArray, List.getElem_cons_zero, List.getElem_cons_succ]
            refine wpAnyK_pure (i := 2) (v := .pointer (some ⟨P, 0, none⟩)) rfl (by kernel_rfl) (by kernel_rfl) (by kernel_rfl) (by decide) (fun _ _ _ h => h) (Or.inl ⟨by rfl, ?_⟩) (.inr hCu) ?_
            · intro w6 _
              go_simp
            simp only [Act.put, List.setIfInBounds_toArray, List.set_cons_zero, List.set_cons_succ, List.getElem_toArray, List.getElem_cons_zero, List.getElem_cons_succ]
            refine wpAnyK_pure (i := 3) (v := .pointer (some ⟨P, 0, none⟩)) rfl (by kernel_rfl) (by kernel_rfl) (by kernel_rfl) (by decide) (fun _ _ _ h => h) (Or.inl ⟨by rfl, ?_⟩) (.inr hCu) ?_
            · intro w6 _
              go_simp
            simp only [Act.put, List.setIfInBounds_toArray, List.set_cons_zero, List.set_cons_succ, List.getElem_toArray, List.getElem_cons_zero, List.getElem_cons_succ]
            refine wpAnyK_pure (i := 4) (v := .pointer (some ⟨P, 1, none⟩)) rfl (by kernel_rfl) (by kernel_rfl) (by kernel_rfl) (by decide) (fun _ _ _ h => h) (Or.inl ⟨by rfl, ?_⟩) (.inr hCu) ?_
            · intro w6 _
              go_simp
            simp only [Act.put, List.setIfInBounds_toArray, List.set_cons_zero, List.set_cons_succ, List.getElem_toArray, List.getElem_cons_zero, List.getElem_cons_succ]
            refine wpAnyK_take (i := 5) (v := .slice uA c.up.length uc) rfl (by kernel_rfl) (by kernel_rfl) (by kernel_rfl) (by kernel_rfl) (by decide) (by kernel_rfl) (fun _ _ _ h => h) (Or.inl ⟨by rfl, ?_⟩) hCu ?_
            · rintro w6 c1
              go_simp
            simp only [Act.put, List.setIfInBounds_toArray, List.set_cons_zero, List.set_cons_succ, List.getElem_toArray, List.getElem_cons_zero, List.getElem_cons_succ]
            refine wpAnyK_pure (i := 6) (v := .pointer (some ⟨P, 0, none⟩)) rfl (by kernel_rfl) (by kernel_rfl) (by kernel_rfl) (by decide) (fun _ _ _ h => h) (Or.inl ⟨by rfl, ?_⟩) (.inr hCu) ?_
            · intro w6 _
              go_simp
            simp only [Act.put, List.setIfInBounds_toArray, List.set_cons_zero, List.set_cons_succ, List.getElem_toArray, List.getElem_cons_zero, List.getElem_cons_succ]
            refine wpAnyK_pure (i := 7) (v := .pointer (some ⟨P, 0, none⟩)) rfl (by kernel_rfl) (by kernel_rfl) (by kernel_rfl) (by decide) (fun _ _ _ h => h) (Or.inl ⟨by rfl, ?_⟩) (.inr hCu) ?_
            · intro w6 _
              go_simp
            simp only [Act.put, List.setIfInBounds_toArray, List.set_cons_zero, List.set_cons_succ, List.getElem_toArray, List.getElem_cons_zero, List.getElem_cons_succ]
            refine wpAnyK_pure (i := 8) (v := .pointer (some ⟨P, 0, none⟩)) rfl (by kernel_rfl) (by kernel_rfl) (by kernel_rfl) (by decide) (fun _ _ _ h => h) (Or.inl ⟨by rfl, ?_⟩) (.inr hCu) ?_
            · intro w6 _
              go_simp
            simp only [Act.put, List.setIfInBounds_toArray, List.set_cons_zero, List.set_cons_succ, List.getElem_toArray, List.getElem_cons_zero, List.getElem_cons_succ]
            refine wpAnyK_pure (i := 9) (v := .pointer (some ⟨P, 1, none⟩)) rfl (by kernel_rfl) (by kernel_rfl) (by kernel_rfl) (by decide) (fun _ _ _ h => h) (Or.inl ⟨by rfl, ?_⟩) (.inr hCu) ?_
            · intro w6 _
              go_simp
            simp only [Act.put, List.setIfInBounds_toArray, List.set_cons_zero, List.set_cons_succ, List.getElem_toArray, List.getElem_cons_zero, List.getElem_cons_succ]
            refine wpAnyK_one (i := 10) (by kernel_rfl) rfl (fun K5 hK5 => ?_)
            have cw := hCu
            go_simp
            refine hK5.out _ _ (.inr hCu) ?_
            clear hK5 K5 cw
            refine wpAnyK_pure (i := 11) (v := .int .i64 (c.up.length : Int)) rfl (by kernel_rfl) (by kernel_rfl) (by kernel_rfl) (by decide) (fun _ _ _ h => h) (Or.inl ⟨by rfl, ?_⟩) (.inr hCu) ?_
            · intro w6 _
              go_simp
            simp only [Act.put, List.setIfInBounds_toArray, List.set_cons_zero, List.set_cons_succ, List.getElem_toArray, List.getElem_cons_zero, List.getElem_cons_succ]
            refine wpAnyK_one (i := 12) (by kernel_rfl) rfl (fun K5 hK5 => ?_)
            go_simp
            go_at_call 63
            refine (HOne.out _).mono ?_
            rintro e w' ⟨rfl, rfl⟩
            refine hK5.out _ _ (.inr hCu) ?_
            clear hK5 K5
            refine wpAnyK_one (i := 13) (by kernel_rfl) rfl (fun K5 hK5 => ?_)
            go_simp
            refine hK5.out _ _ (.inr hCua) ?_
            clear hK5 K5
            refine wpAnyK_one (i := 14) (by kernel_rfl) rfl (fun K5 hK5 => ?_)
            refine step_append_lies _ rfl (.tmp 160) (.tmp 168) 24 rfl base 40 m0 (.int .u64 0) 1 8 Tryz.underlying24 hm0 mz0 mz1 mz2 rfl (by decide) (.slice uA c.up.length uc) c.up.length _ rfl Xua.out.2.2.2.1 ⟨Wq.heap.size, 0, none⟩ 1 1 [u64V (2 ^ c.up.length)] rfl rfl (cells1_new5 Wq _ _) (by intro u hu; simp at hu; subst hu; rfl) (by omega) (by unfold maxLen; omega) (by omega) (by have := Qq.out; show base ≤ (Wq.alloc (.cells #[.int .u64 ((2 ^ c.up.length : Nat) : Int)] 40)).drew.heap.size; simp; omega) _ rfl ?_
            intro gu capu wun h7 h8 h9 h10
            have h8' : (Wq.alloc (.cells #[.int .u64 ((2 ^ c.up.length : Nat) : Int)] 40)).drew.grownBy wun (Value.ownBlock (.slice uA c.up.length uc)) := h8
            have Au := PBx.app1 Xua.out h7 h8'
            have Ru := WR.app Wua.out Xua.out.2.2.2.1 (by decide) h8'
            have Fu := Lib.hid (And.intro Au.1 (And.intro (Ru.set (i := 1) (u := .slice (some ⟨gu, 0, none⟩) (c.up.length + 1) capu) Au.2) ((below_own5 Bua.out h8' Xua.out.2.2.2.1 (by have := Qq.out; simp; omega)).setCell (p := ⟨P, 1, none⟩) Au.1.2.1 (.slice (some ⟨gu, 0, none⟩) (c.up.length + 1) capu))))
            have cu : wun.cell? ⟨P, 1, none⟩ = some (.slice uA c.up.length uc) := by rw [Au.2.cell]; simp
            have fu := Au.2.free 1
            clear h7 h8 h8' h9 h10 Au Ru
            refine hK5.out _ _ (.inl (by kernel_rfl)) ?_
            clear hK5 K5
            simp only [Act.put, List.setIfInBounds_toArray, List.set_cons_zero, List.set_cons_succ, List.getElem_toArray, List.getElem_cons_zero, List.getElem_cons_succ]
            refine wpAnyK_pure (i := 15) (v := .pointer (some ⟨P, 0, none⟩)) rfl (by kernel_rfl) (by kernel_rfl) (by kernel_rfl) (by decide) (fun _ _ _ h => h) (Or.inl ⟨by rfl, ?_⟩) (.inl (by kernel_rfl)) ?_
            · intro w6 _
              go_simp
            simp only [Act.put, List.setIfInBounds_toArray, List.set_cons_zero, List.set_cons_succ, List.getElem_toArray, List.getElem_cons_zero, List.getElem_cons_succ]
            refine wpAnyK_pure (i := 16) (v := .pointer (some ⟨P, 0, none⟩)) rfl (by kernel_rfl) (by kernel_rfl) (by kernel_rfl) (by decide) (fun _ _ _ h => h) (Or.inl ⟨by rfl, ?_⟩) (.inl (by kernel_rfl)) ?_
            · intro w6 _
              go_simp
            simp only [Act.put, List.setIfInBounds_toArray, List.set_cons_zero, List.set_cons_succ, List.getElem_toArray, List.getElem_cons_zero, List.getElem_cons_succ]
            refine wpAnyK_pure (i := 17) (v := .pointer (some ⟨P, 1, none⟩)) rfl (by kernel_rfl) (by kernel_rfl) (by kernel_rfl) (by decide) (fun _ _ _ h => h) (Or.inl ⟨by rfl, ?_⟩) (.inl (by kernel_rfl)) ?_
            · intro w6 _
              go_simp
            simp only [Act.put, List.setIfInBounds_toArray, List.set_cons_zero, List.set_cons_succ, List.getElem_toArray, List.getElem_cons_zero, List.getElem_cons_succ]
            refine wpAnyK_one (i := 18) (by kernel_rfl) rfl (fun K5 hK5 => ?_)
            go_simp
            refine hK5.out _ _ (.inl (by kernel_rfl)) ?_
            clear hK5 K5
            refine wpAnyK_done (by kernel_rfl) ?_ _
            refine hK _ _ ?_
            clear hK K
            generalize wun.setCell ⟨P, 1, none⟩ (.slice (some ⟨gu, 0, none⟩) (c.up.length + 1) capu) = Wu at Fu ⊢
            have Xu := Lib.hid Fu.out.1
            have Du := Lib.hid Fu.out.2.1
            have Bu := Lib.hid Fu.out.2.2
            have Qu : Hid (base ≤ Wu.heap.size) := Lib.hid (Nat.le_trans hbw Bu.out.size)
            clear Fu cu fu hCu hCua Xua Wua Bua
            go_wp2
            go_ret
            rw [HE.out]
            refine ⟨rfl, ?_, Bu.out⟩
            rw [HDo.out]
            exact ⟨_, _, _, _, Xu.out⟩
    · rw [hkd] at t0 HMany
      unfold underT at t0 HMany
      go_enter Tryz.func27, Tryz.ntmps27
      go_wp2_with (go_at_call 61; (with_reducible refine (HMany.out _).mono ?_); rintro e w' ⟨rfl, rfl⟩)
      go_loopw [8, 9] (fun v i wr => ∃ k : Nat, 1 ≤ k ∧ k ≤ 3 ∧ i = .int .i64 k ∧ (∀ j, 1 ≤ j → j < k → badAt c l en j = none) ∧ wr.ownsRow w.heap.size 3 1 v (k - 1) ((foundN c l (k - 1)).map (Value.int .i64)) ∧ Below w.heap.size w wr) (fun _ i _ => 3 - (intOf i).toNat)
      case atStart => exact ⟨1, Nat.le_refl _, by omega, rfl, fun j h1 h2 => absurd h2 (by omega), World.ownsRow_nil _ _ _ _, Below.refl _ _⟩
      case round =>
        obtain ⟨k, hk1, hk, rfl, hj2, hO, hB⟩ := hrel
        have HJ := Lib.hid hj2
        have HO := Lib.hid hO
        have BW := Lib.hid hB
        clear hj2 hO hB
        by_cases hkN : k < 3
        · by_cases hlen : l.length ≤ k
          · have HE := Lib.hid (lineN_bad (l := l) HNe.out hk1 (by rw [HN.out]; exact hkN) HJ.out (badAt_short (c := c) (en := en) hlen))
            have q1 : (l.length : Int) ≤ (k : Int) := by omega
            have q2 : decide ((l.length : Int) ≤ (k : Int)) = true := by simp; omega
            have HB5 := Lib.hid ((HPB.out).below BW.out)
            rw [HE.out]
            obtain ⟨w3, hw3⟩ : ∃ w3 : World, w3 = wr := ⟨_, rfl⟩
            subst hw3
            go_wp2
            go_ret
            exact ⟨rfl, HB5.out, BW.out.mono HBase.out⟩
          · have hkl : k < l.length := by omega
            have q2 : decide ((l.length : Int) ≤ (k : Int)) = false := by simp; omega
            have HSz1 := HSz.out k hkl
            have HBd := Lib.hid (fun p (h : badAt c l en k = some p) => lineN_bad (l := l) HNe.out hk1 (by rw [HN.out]; exact hkN) HJ.out h)
            have HYe : Hid (badAt c l en k = none → ∀ j, 1 ≤ j → j < k + 1 → badAt c l en j = none) := Lib.hid (fun h j h1 h2 => by
              by_cases e : j = k
              · subst e; exact h
              · exact HJ.out j h1 (by omega))
            have HFm : Hid (foundN c l (k - 1 + 1) = foundN c l (k - 1) ++ [findN c.names (wAt l k).1]) := Lib.hid (by
              rw [foundN_more, show k - 1 + 1 = k by omega])
            have HTx := Lib.hid (fun w1 (hb : Below w.heap.size w w1) => HWd.out w1 hb k hkl)
            have HW0 := Lib.hid (fun w1 (hb : Below w.heap.size w w1) => show w1.cell? ⟨g, 0, none⟩ = some (.string ⟨(wAt l 0).1.toArray⟩) by
              have := (HWd.out w1 hb 0 (by omega)).1
              simpa using this)
            have i1 : (k : Int) < (l.length : Int) := by omega
            have i0 : (0 : Int) ≤ (k : Int) := by omega
            rw [hkd] at HW0
            obtain ⟨t1, p1⟩ := HTx.out wr BW.out
            have c0 := HPC.out wr BW.out
            have d0 := HW0.out wr BW.out
            obtain ⟨z, hz⟩ : ∃ z, findN c.names (wAt l k).1 = z := ⟨_, rfl⟩
            have HBa := badAt_name (c := c) (en := en) hkl (by rw [hkd]; decide)
            rw [hz] at HBa HFm
            have HFd2 := Lib.hid (fun w1 hb => HFd.out w1 hb (wAt l k).1)
            rw [hz] at HFd2
            clear hz
            generalize (wAt l k).1 = t at t1 HTx HFd2 HSz1
            generalize (wAt l k).2 = p at p1 HTx HBa
            unfold underT at d0 HW0
            by_cases hz0 : z < 0
            · rw [if_pos hz0] at HBa
              have HE := Lib.hid (HBd.out _ HBa)
              have e0 : decide (z < 0) = true := by simpa using hz0
              rw [HE.out]
              clear HBa hz0
              go_wp2_with (first
                | (go_at_call 42; (with_reducible refine (HFd2.out _ BW.out).mono ?_); rintro e w' ⟨rfl, rfl⟩)
                | (at_builtin; refine wpList_append_own _ rfl (.tmp 46) (.tmp 48) 25 rfl w.heap.size 3 j0 (.int .i64 0) 1 8 Tryz.underlying25 hj jz0 jz1 jz2 rfl (by decide) _ (k - 1) _ rfl (HO.out.alloc _) ⟨wr.heap.size, 0, none⟩ 1 1 [.int .i64 z] rfl rfl ?_ ?_ ?_ ?_ ?_ ?_; (exact cells1_new5 _ _ _); (intro u hu; simp at hu; subst hu; rfl); (unfold maxLen; omega); (omega); (have hq := BW.out.size; simp; omega); intro v6 w6 h7 h8 h9; have B6 := Lib.hid (below_own5 (BW.out.alloc BW.out.size (.cells #[.int .i64 z] 3)) h8 (HO.out.alloc (.cells #[.int .i64 z] 3)) (by have hq := BW.out.size; simp; omega)); have O6 := Lib.hid h7; obtain ⟨t1, p1⟩ := HTx.out w6 B6.out; have c0 := HPC.out w6 B6.out; have d0 := HW0.out w6 B6.out; clear h7 h8 h9))
              go_ret
              exact ⟨rfl, HPB.out.below B6.out, B6.out.mono HBase.out⟩
            · rw [if_neg hz0] at HBa
              have HE := Lib.hid (HYe.out HBa)
              have e0 : decide (z < 0) = false := by simpa using hz0
              clear HBa hz0
              go_wp2_with (first
                | (go_at_call 42; (with_reducible refine (HFd2.out _ BW.out).mono ?_); rintro e w' ⟨rfl, rfl⟩)
                | (at_builtin; refine wpList_append_own _ rfl (.tmp 46) (.tmp 48) 25 rfl w.heap.size 3 j0 (.int .i64 0) 1 8 Tryz.underlying25 hj jz0 jz1 jz2 rfl (by decide) _ (k - 1) _ rfl (HO.out.alloc _) ⟨wr.heap.size, 0, none⟩ 1 1 [.int .i64 z] rfl rfl ?_ ?_ ?_ ?_ ?_ ?_; (exact cells1_new5 _ _ _); (intro u hu; simp at hu; subst hu; rfl); (unfold maxLen; omega); (omega); (have hq := BW.out.size; simp; omega); intro v6 w6 h7 h8 h9; have B6 := Lib.hid (below_own5 (BW.out.alloc BW.out.size (.cells #[.int .i64 z] 3)) h8 (HO.out.alloc (.cells #[.int .i64 z] 3)) (by have hq := BW.out.size; simp; omega)); have O6 := Lib.hid h7; obtain ⟨t1, p1⟩ := HTx.out w6 B6.out; have c0 := HPC.out w6 B6.out; have d0 := HW0.out w6 B6.out; clear h7 h8 h9))
              go_roundw
              case rel =>
                refine ⟨k + 1, by omega, by omega, by go_num, HE.out, ?_, B6.out⟩
                rw [show k + 1 - 1 = k - 1 + 1 by omega, HFm.out, List.map_append]
                exact O6.out
              case measure => simp [intOf]; omega
        · obtain rfl : k = 3 := by omega
          have HOv := Lib.hid HO.out
          obtain ⟨w3, hw3⟩ : ∃ w3 : World, w3 = wr := ⟨_, rfl⟩
          subst hw3
          by_cases hmore : 3 < l.length
          · have HE := Lib.hid (lineN_more (l := l) (c := c) (en := en) HNe.out (by rw [HN.out]; exact HJ.out) (by rw [HN.out]; exact hmore))
            rw [HN.out] at HE
            obtain ⟨t3, p3⟩ := HWd.out w3 BW.out 3 hmore
            simp only [Nat.reduceMul, Nat.reduceAdd] at t3 p3
            have q2 : decide ((3 : Int) < (l.length : Int)) = true := by simp; omega
            have i1 : (3 : Int) < (l.length : Int) := by omega
            go_wp2
            go_ret
            rw [HE.out]
            exact ⟨rfl, HPB.out.below BW.out, BW.out.mono HBase.out⟩
          · have HE := Lib.hid (lineN_good (l := l) (c := c) (en := en) HNe.out (by rw [HN.out]; exact HJ.out) (by rw [HN.out]; exact hmore))
            have q2 : decide ((3 : Int) < (l.length : Int)) = false := by simp; omega
            have hlenN : 3 ≤ l.length := by
              apply Classical.byContradiction
              intro hn
              have := HJ.out 2 (by omega) (by omega)
              rw [badAt_short (by omega)] at this
              cases this
            obtain ⟨d0, _⟩ := HWd.out w3 BW.out 0 (by omega)
            simp only [Nat.zero_mul] at d0
            rw [hkd] at d0
            unfold underT at d0
            obtain ⟨vA, vc, rfl⟩ := own_sl HOv.out
            have hO3 := HOv.out
            have hf : foundN c l (3 - 1) = [findN c.names (wAt l 1).1, findN c.names (wAt l 2).1] := rfl
            have hb1 := HJ.out 1 (by omega) (by omega)
            have hb2 := HJ.out 2 (by omega) (by omega)
            rw [badAt_name (by omega) (by rw [hkd]; decide)] at hb1 hb2
            have ha0 : 0 ≤ findN c.names (wAt l 1).1 := by
              apply Classical.byContradiction
              intro hn
              rw [if_pos (by omega)] at hb1
              cases hb1
            have hb0 : 0 ≤ findN c.names (wAt l 2).1 := by
              apply Classical.byContradiction
              intro hn
              rw [if_pos (by omega)] at hb2
              cases hb2
            have ha1 := findN_lt (l := c.names) (s := (wAt l 1).1)
            have hb1' := findN_lt (l := c.names) (s := (wAt l 2).1)
            have HDo : Hid (doLine c l = doUnder c l) := Lib.hid (by unfold doLine; rw [if_neg (by rw [hkd]; decide), if_pos hkd])
            have HDu : Hid (doUnder c l = if ubit c.up (findN c.names (wAt l 1).1).toNat (findN c.names (wAt l 2).1).toNat = true then c else { c with up := c.up.set (findN c.names (wAt l 1).1).toNat (c.up.getD (findN c.names (wAt l 1).1).toNat 0 + 2 ^ (findN c.names (wAt l 2).1).toNat) }) := Lib.hid rfl
            rw [hf] at hO3
            clear hb1 hb2 hf
            obtain ⟨a, ea⟩ : ∃ a : Nat, findN c.names (wAt l 1).1 = a := ⟨(findN c.names (wAt l 1).1).toNat, by omega⟩
            obtain ⟨b, eb⟩ : ∃ b : Nat, findN c.names (wAt l 2).1 = b := ⟨(findN c.names (wAt l 2).1).toNat, by omega⟩
            rw [ea] at ha1
            rw [eb] at hb1'
            rw [ea, eb] at hO3 HDu
            simp only [Int.toNat_natCast] at HDu
            clear ha0 hb0 ea eb
            have hau : a < c.up.length := by have := HOK.out.ups; omega
            have hab : a < 64 ∧ b < 64 := by omega
            obtain ⟨hg', hcells⟩ : ∃ hg', vA = some ⟨hg', 0, none⟩ ∧ (∀ w1, Below w3.heap.size w3 w1 → w1.cell? ⟨hg', 0, none⟩ = some (.int .i64 (a : Int)) ∧ w1.cell? ⟨hg', 1, none⟩ = some (.int .i64 (b : Int))) := by
              rcases hO3.2 with ⟨e, _⟩ | ⟨g', cap', cur, e, _, hg, _, _, _, hcur⟩
              · cases e
              · injection e with e _ _
                refine ⟨g', e, fun w1 hw1 => ?_⟩
                have hg1 : Has w1 g' 3 cur := Has.below (w := w3) (g := g') (t := 3) (cs := cur) hg hw1 (Array.getElem?_eq_some_iff.1 hg).1
                have k : ∀ j u, ([.int .i64 (a : Int), .int .i64 (b : Int)] : List Value)[j]? = some u → w1.cell? ⟨g', j, none⟩ = some u := fun j u hj => by
                  rw [hg1.cell]
                  have h5 : (cur.toList.take ((3 - 1) * 1))[j]? = some u := by rw [hcur]; exact hj
                  rw [List.getElem?_take] at h5
                  split at h5
                  · simpa using h5
                  · cases h5
                exact ⟨k 0 _ rfl, k 1 _ rfl⟩
            obtain ⟨rfl, hcells⟩ := hcells
            have HCe := Lib.hid hcells
            have HX3 := Lib.hid (HX.out.below BW.out)
            obtain ⟨ug, uc, hvu, hucell⟩ : ∃ ug uc, vu = .slice (some ⟨ug, 0, none⟩) c.up.length uc ∧ (∀ w1, Below w3.heap.size w3 w1 → w1.cell? ⟨ug, a, none⟩ = some (.int .u64 (c.up[a] : Int)) ∧ w1.frozen? ⟨ug, a, none⟩ = false) := by
              rcases HX3.out.2.2.2.1.2 with ⟨_, e⟩ | ⟨g', cap', cur, e, _, hg, _, _, _, hcur⟩
              · omega
              · refine ⟨g', cap', e, fun w1 hw1 => ?_⟩
                have hg1 : Has w1 g' 40 cur := Has.below (w := w3) (g := g') (t := 40) (cs := cur) hg hw1 (Array.getElem?_eq_some_iff.1 hg).1
                refine ⟨?_, hg1.free a⟩
                rw [hg1.cell]
                have h5 : (cur.toList.take (c.up.length * 1))[a]? = some (.int .u64 (c.up[a] : Int)) := by rw [hcur]; simp [hau, u64V]
                rw [List.getElem?_take] at h5
                split at h5
                · simpa using h5
                · cases h5
            subst hvu
            have HUc := Lib.hid hucell
            have HPC1 := Lib.hid (fun w1 (hb : Below w3.heap.size w3 w1) => show w1.cell? ⟨P, 1, none⟩ = some (.slice (some ⟨ug, 0, none⟩) c.up.length uc) by
              have k := (HX3.out.below hb).1
              rw [k.cell]
              simp)
            have hx64 := HOK.out.big c.up[a] (List.getElem_mem hau)
            have HBit := Lib.hid (fun w1 => r3Bit_any c.up[a] b w1 hx64 (by omega))
            have HOne := Lib.hid (fun w1 => r3One_any b w1 hab.2)
            have hub : ubit c.up a b = c.up[a].testBit b := by unfold ubit; rw [getD_at _ _ hau]
            have BD : Below w3.heap.size w3 w3.drew := (Below.refl _ _).drew
            have hS : (fun w' : World => w'.cell? ⟨P, 1, none⟩ = some (.slice (some ⟨ug, 0, none⟩) c.up.length uc) ∧ (w'.cell? ⟨hg', 0, none⟩ = some (.int .i64 (a : Int)) ∧ w'.cell? ⟨hg', 1, none⟩ = some (.int .i64 (b : Int))) ∧ w'.cell? ⟨ug, a, none⟩ = some (.int .u64 (c.up[a] : Int))) w3.drew := ⟨HPC1.out _ BD, HCe.out _ BD, (HUc.out _ BD).1⟩
            have i1 : (a : Int) < (c.up.length : Int) := by omega
            have i0 : (0 : Int) ≤ (a : Int) := by omega
            have i2 : (0 : Int) ≤ (b : Int) := by omega
            rw [hub, getD_at _ _ hau] at HDu
            have HAdd := Lib.hid (fun (h : c.up[a].testBit b = false) => Nat.lt_pow_two_of_testBit (c.up[a] + 2 ^ b) (n := 64) (fun j hj => by
              rw [add_bit _ _ _ h, Nat.testBit_lt_two_pow (Nat.lt_of_lt_of_le hx64 (Nat.pow_le_pow_right (by omega) hj))]
              simp
              omega))
            have HUs := Lib.hid (fun (w1 : World) (v : Nat) (hb : Below w3.heap.size w3 w1) => PBx.upset (a := a) (HX3.out.below hb) v)
            clear hcells hucell hO3
            cases hbit : c.up[a].testBit b
            · rw [hbit] at HBit HDu
              have HAd := Lib.hid (HAdd.out hbit)
              have HFin : Hid (doLine c l = { c with up := c.up.set a (c.up[a] + 2 ^ b) }) := Lib.hid (by rw [HDo.out, HDu.out]; rfl)
              clear hbit HDu HDo
              generalize c.up[a] = x at HBit hS HAd HFin HUc
              generalize 2 ^ b = z at HOne HAd HFin
              go_wp2
              go_region_held (fun w' : World => w'.cell? ⟨P, 1, none⟩ = some (.slice (some ⟨ug, 0, none⟩) c.up.length uc) ∧ (w'.cell? ⟨hg', 0, none⟩ = some (.int .i64 (a : Int)) ∧ w'.cell? ⟨hg', 1, none⟩ = some (.int .i64 (b : Int))) ∧ w'.cell? ⟨ug, a, none⟩ = some (.int .u64 (x : Int))) (first | exact hS | assumption) (first
                | (go_at_call 48; (with_reducible refine (HBit.out _).mono ?_); rintro e w' ⟨rfl, rfl⟩))
              all_goals
                clear hS
                obtain ⟨W5, hW5⟩ : ∃ W5 : World, W5 = w3.drew := ⟨_, rfl⟩
                rw [← hW5]
                have BD5 : Below w3.heap.size w3 W5 := hW5 ▸ BD
                have BW5 : Below w.heap.size w W5 := hW5 ▸ BW.out.drew
                clear hW5
                have s1 := HPC1.out _ BD5
                obtain ⟨s2, s3⟩ := HCe.out _ BD5
                obtain ⟨s4, f1⟩ := HUc.out _ BD5
                go_wp2
                go_still_tail 16, (by kernel_rfl)
                still_call ((HOne.out _).mono fun _ _ ⟨he, hw⟩ => ⟨he, hw.symm⟩)
                repeat still_step
                refine wpStill_nil ?_
                have hwr : IntKind.u64.wrap ((x : Int) + (z : Int)) = ((x + z : Nat) : Int) := by
                  rw [IntWalk.u64_in _ (by have := HAd.out; omega)]
                  omega
                rw [hwr]
                clear hwr
                have HP2 := Lib.hid (HUs.out _ (x + z) BD5.drew)
                have HB2 := Lib.hid ((BW5.drew.mono HBase.out).setCell (p := ⟨ug, a, none⟩) (by
                  rcases HX3.out.2.2.2.1.2 with ⟨e, _⟩ | ⟨g', cap', cur, e, hbg, _⟩
                  · cases e
                  · injection e with e _ _
                    injection e with e
                    injection e with e
                    subst e
                    exact hbg) (.int .u64 ((x + z : Nat) : Int)))
                change wpList _ _ _ _ _ W5.drew
                have s4d : W5.drew.cell? ⟨ug, a, none⟩ = some (.int .u64 (x : Int)) := s4
                have f1d : W5.drew.frozen? ⟨ug, a, none⟩ = false := f1
                go_wp2
                go_ret
                rw [HE.out]
                refine ⟨rfl, ?_, HB2.out⟩
                rw [HFin.out]
                exact ⟨_, _, _, _, HP2.out⟩
            · rw [hbit] at HBit HDu
              have HFin : Hid (doLine c l = c) := Lib.hid (by rw [HDo.out, HDu.out]; rfl)
              clear hbit HDu HDo
              generalize c.up[a] = x at HBit hS
              go_wp2
              go_region_held (fun w' : World => w'.cell? ⟨P, 1, none⟩ = some (.slice (some ⟨ug, 0, none⟩) c.up.length uc) ∧ (w'.cell? ⟨hg', 0, none⟩ = some (.int .i64 (a : Int)) ∧ w'.cell? ⟨hg', 1, none⟩ = some (.int .i64 (b : Int))) ∧ w'.cell? ⟨ug, a, none⟩ = some (.int .u64 (x : Int))) (first | exact hS | assumption) (first
                | (go_at_call 48; (with_reducible refine (HBit.out _).mono ?_); rintro e w' ⟨rfl, rfl⟩))
              all_goals
                go_wp2
                go_ret
                rw [HE.out]
                refine ⟨rfl, ?_, (BW.out.mono HBase.out).drew⟩
                rw [HFin.out]
                exact HPB.out.below (below_step BW.out BD)
    · rw [hkd] at t0 HMany
      unfold grantT at t0 HMany
      go_enter Tryz.func27, Tryz.ntmps27
      go_wp2_with (go_at_call 61; (with_reducible refine (HMany.out _).mono ?_); rintro e w' ⟨rfl, rfl⟩)
      go_loopw [8, 9] (fun v i wr => ∃ k : Nat, 1 ≤ k ∧ k ≤ 4 ∧ i = .int .i64 k ∧ (∀ j, 1 ≤ j → j < k → badAt c l en j = none) ∧ wr.ownsRow w.heap.size 3 1 v (k - 1) ((foundN c l (k - 1)).map (Value.int .i64)) ∧ Below w.heap.size w wr) (fun _ i _ => 4 - (intOf i).toNat)
      case atStart => exact ⟨1, Nat.le_refl _, by omega, rfl, fun j h1 h2 => absurd h2 (by omega), World.ownsRow_nil _ _ _ _, Below.refl _ _⟩
      case round =>
        obtain ⟨k, hk1, hk, rfl, hj2, hO, hB⟩ := hrel
        have HJ := Lib.hid hj2
        have HO := Lib.hid hO
        have BW := Lib.hid hB
        clear hj2 hO hB
        by_cases hkN : k < 4
        · by_cases hlen : l.length ≤ k
          · have HE := Lib.hid (lineN_bad (l := l) HNe.out hk1 (by rw [HN.out]; exact hkN) HJ.out (badAt_short (c := c) (en := en) hlen))
            have q1 : (l.length : Int) ≤ (k : Int) := by omega
            have q2 : decide ((l.length : Int) ≤ (k : Int)) = true := by simp; omega
            have HB5 := Lib.hid ((HPB.out).below BW.out)
            rw [HE.out]
            obtain ⟨w3, hw3⟩ : ∃ w3 : World, w3 = wr := ⟨_, rfl⟩
            subst hw3
            go_wp2
            go_ret
            exact ⟨rfl, HB5.out, BW.out.mono HBase.out⟩
          · have hkl : k < l.length := by omega
            have q2 : decide ((l.length : Int) ≤ (k : Int)) = false := by simp; omega
            have HSz1 := HSz.out k hkl
            have HBd := Lib.hid (fun p (h : badAt c l en k = some p) => lineN_bad (l := l) HNe.out hk1 (by rw [HN.out]; exact hkN) HJ.out h)
            have HYe : Hid (badAt c l en k = none → ∀ j, 1 ≤ j → j < k + 1 → badAt c l en j = none) := Lib.hid (fun h j h1 h2 => by
              by_cases e : j = k
              · subst e; exact h
              · exact HJ.out j h1 (by omega))
            have HFm : Hid (foundN c l (k - 1 + 1) = foundN c l (k - 1) ++ [findN c.names (wAt l k).1]) := Lib.hid (by
              rw [foundN_more, show k - 1 + 1 = k by omega])
            have HTx := Lib.hid (fun w1 (hb : Below w.heap.size w w1) => HWd.out w1 hb k hkl)
            have HW0 := Lib.hid (fun w1 (hb : Below w.heap.size w w1) => show w1.cell? ⟨g, 0, none⟩ = some (.string ⟨(wAt l 0).1.toArray⟩) by
              have := (HWd.out w1 hb 0 (by omega)).1
              simpa using this)
            have i1 : (k : Int) < (l.length : Int) := by omega
            have i0 : (0 : Int) ≤ (k : Int) := by omega
            rw [hkd] at HW0
            obtain ⟨t1, p1⟩ := HTx.out wr BW.out
            have c0 := HPC.out wr BW.out
            have d0 := HW0.out wr BW.out
            obtain ⟨z, hz⟩ : ∃ z, findN c.names (wAt l k).1 = z := ⟨_, rfl⟩
            have HBa := badAt_name (c := c) (en := en) hkl (by rw [hkd]; decide)
            rw [hz] at HBa HFm
            have HFd2 := Lib.hid (fun w1 hb => HFd.out w1 hb (wAt l k).1)
            rw [hz] at HFd2
            clear hz
            generalize (wAt l k).1 = t at t1 HTx HFd2 HSz1
            generalize (wAt l k).2 = p at p1 HTx HBa
            unfold grantT at d0 HW0
            by_cases hz0 : z < 0
            · rw [if_pos hz0] at HBa
              have HE := Lib.hid (HBd.out _ HBa)
              have e0 : decide (z < 0) = true := by simpa using hz0
              rw [HE.out]
              clear HBa hz0
              go_wp2_with (first
                | (go_at_call 42; (with_reducible refine (HFd2.out _ BW.out).mono ?_); rintro e w' ⟨rfl, rfl⟩)
                | (at_builtin; refine wpList_append_own _ rfl (.tmp 46) (.tmp 48) 25 rfl w.heap.size 3 j0 (.int .i64 0) 1 8 Tryz.underlying25 hj jz0 jz1 jz2 rfl (by decide) _ (k - 1) _ rfl (HO.out.alloc _) ⟨wr.heap.size, 0, none⟩ 1 1 [.int .i64 z] rfl rfl ?_ ?_ ?_ ?_ ?_ ?_; (exact cells1_new5 _ _ _); (intro u hu; simp at hu; subst hu; rfl); (unfold maxLen; omega); (omega); (have hq := BW.out.size; simp; omega); intro v6 w6 h7 h8 h9; have B6 := Lib.hid (below_own5 (BW.out.alloc BW.out.size (.cells #[.int .i64 z] 3)) h8 (HO.out.alloc (.cells #[.int .i64 z] 3)) (by have hq := BW.out.size; simp; omega)); have O6 := Lib.hid h7; obtain ⟨t1, p1⟩ := HTx.out w6 B6.out; have c0 := HPC.out w6 B6.out; have d0 := HW0.out w6 B6.out; clear h7 h8 h9))
              go_ret
              exact ⟨rfl, HPB.out.below B6.out, B6.out.mono HBase.out⟩
            · rw [if_neg hz0] at HBa
              have HE := Lib.hid (HYe.out HBa)
              have e0 : decide (z < 0) = false := by simpa using hz0
              clear HBa hz0
              go_wp2_with (first
                | (go_at_call 42; (with_reducible refine (HFd2.out _ BW.out).mono ?_); rintro e w' ⟨rfl, rfl⟩)
                | (at_builtin; refine wpList_append_own _ rfl (.tmp 46) (.tmp 48) 25 rfl w.heap.size 3 j0 (.int .i64 0) 1 8 Tryz.underlying25 hj jz0 jz1 jz2 rfl (by decide) _ (k - 1) _ rfl (HO.out.alloc _) ⟨wr.heap.size, 0, none⟩ 1 1 [.int .i64 z] rfl rfl ?_ ?_ ?_ ?_ ?_ ?_; (exact cells1_new5 _ _ _); (intro u hu; simp at hu; subst hu; rfl); (unfold maxLen; omega); (omega); (have hq := BW.out.size; simp; omega); intro v6 w6 h7 h8 h9; have B6 := Lib.hid (below_own5 (BW.out.alloc BW.out.size (.cells #[.int .i64 z] 3)) h8 (HO.out.alloc (.cells #[.int .i64 z] 3)) (by have hq := BW.out.size; simp; omega)); have O6 := Lib.hid h7; obtain ⟨t1, p1⟩ := HTx.out w6 B6.out; have c0 := HPC.out w6 B6.out; have d0 := HW0.out w6 B6.out; clear h7 h8 h9))
              go_roundw
              case rel =>
                refine ⟨k + 1, by omega, by omega, by go_num, HE.out, ?_, B6.out⟩
                rw [show k + 1 - 1 = k - 1 + 1 by omega, HFm.out, List.map_append]
                exact O6.out
              case measure => simp [intOf]; omega
        · obtain rfl : k = 4 := by omega
          have HOv := Lib.hid HO.out
          obtain ⟨w3, hw3⟩ : ∃ w3 : World, w3 = wr := ⟨_, rfl⟩
          subst hw3
          by_cases hmore : 4 < l.length
          · have HE := Lib.hid (lineN_more (l := l) (c := c) (en := en) HNe.out (by rw [HN.out]; exact HJ.out) (by rw [HN.out]; exact hmore))
            rw [HN.out] at HE
            obtain ⟨t3, p3⟩ := HWd.out w3 BW.out 4 hmore
            simp only [Nat.reduceMul, Nat.reduceAdd] at t3 p3
            have q2 : decide ((4 : Int) < (l.length : Int)) = true := by simp; omega
            have i1 : (4 : Int) < (l.length : Int) := by omega
            go_wp2
            go_ret
            rw [HE.out]
            exact ⟨rfl, HPB.out.below BW.out, BW.out.mono HBase.out⟩
          · have HE := Lib.hid (lineN_good (l := l) (c := c) (en := en) HNe.out (by rw [HN.out]; exact HJ.out) (by rw [HN.out]; exact hmore))
            have q2 : decide ((4 : Int) < (l.length : Int)) = false := by simp; omega
            have hlenN : 4 ≤ l.length := by
              apply Classical.byContradiction
              intro hn
              have := HJ.out 3 (by omega) (by omega)
              rw [badAt_short (by omega)] at this
              cases this
            obtain ⟨d0, _⟩ := HWd.out w3 BW.out 0 (by omega)
            simp only [Nat.zero_mul] at d0
            rw [hkd] at d0
            unfold grantT at d0
            obtain ⟨vA, vc, rfl⟩ := own_sl HOv.out
            have hO3 := HOv.out
            have hf : foundN c l (4 - 1) = [findN c.names (wAt l 1).1, findN c.names (wAt l 2).1, findN c.names (wAt l 3).1] := rfl
            rw [hf] at hO3
            have HDo : Hid (doLine c l = { c with grants := insG c.grants ⟨findN c.names (wAt l 1).1, findN c.names (wAt l 2).1, findN c.names (wAt l 3).1⟩ }) := Lib.hid (by unfold doLine; rw [if_neg (by rw [hkd]; decide), if_neg (by rw [hkd]; decide)]; rfl)
            generalize findN c.names (wAt l 1).1 = a at hO3 HDo
            generalize findN c.names (wAt l 2).1 = b at hO3 HDo
            generalize findN c.names (wAt l 3).1 = d at hO3 HDo
            clear hf
            obtain ⟨hg', cur, hvA, hHas, hcur⟩ : ∃ hg' cur, vA = some ⟨hg', 0, none⟩ ∧ Has w3 hg' 3 cur ∧ ∀ (j : Nat) (u : Value), ([.int .i64 a, .int .i64 b, .int .i64 d] : List Value)[j]? = some u → cur[j]? = some u := by
              rcases hO3.2 with ⟨e, _⟩ | ⟨g', cap', cur, e, _, hg, _, _, _, hcur⟩
              · cases e
              · injection e with e _ _
                refine ⟨g', cur, e, hg, fun j u hj => ?_⟩
                have h5 : (cur.toList.take ((4 - 1) * 1))[j]? = some u := by rw [hcur]; exact hj
                rw [List.getElem?_take] at h5
                split at h5
                · simpa using h5
                · cases h5
            subst hvA
            have HCe := Lib.hid (fun w1 (h1 : Has w1 hg' 3 cur) => show w1.cell? ⟨hg', 0, none⟩ = some (.int .i64 a) ∧ w1.cell? ⟨hg', 1, none⟩ = some (.int .i64 b) ∧ w1.cell? ⟨hg', 2, none⟩ = some (.int .i64 d) by
              rw [h1.cell, h1.cell, h1.cell]
              exact ⟨hcur 0 _ rfl, hcur 1 _ rfl, hcur 2 _ rfl⟩)
            have HHas := Lib.hid hHas
            have HX3 := Lib.hid (HX.out.below BW.out)
            have HGr := Lib.hid (r5grant_any c ⟨a, b, d⟩ base P w3.drew ⟨_, _, _, _, HX3.out.below (Below.refl _ _).drew⟩ (by have := HOK.out.few; omega) (Nat.le_trans HBase.out BW.out.size))
            unfold gV at HGr
            have hS : (fun w' : World => w'.cell? ⟨hg', 0, none⟩ = some (.int .i64 a) ∧ w'.cell? ⟨hg', 1, none⟩ = some (.int .i64 b) ∧ w'.cell? ⟨hg', 2, none⟩ = some (.int .i64 d)) w3.drew := HCe.out _ hHas.drew
            clear hO3 hHas hcur
            go_wp2
            go_region_held (fun w' : World => w'.cell? ⟨hg', 0, none⟩ = some (.int .i64 a) ∧ w'.cell? ⟨hg', 1, none⟩ = some (.int .i64 b) ∧ w'.cell? ⟨hg', 2, none⟩ = some (.int .i64 d)) (first | exact hS | assumption) (first
              | (go_at_call 64; (with_reducible refine HGr.out.mono ?_); rintro e w5 ⟨rfl, h5, h6, h7⟩; have P5 := Lib.hid h5; have B5 := Lib.hid h6; clear hS; have hS := HCe.out _ (HHas.out.drew.grown h7 (fun e => by injection e with e; exact (HHas.out.apart HX3.out.1 (by decide)) e)); clear h5 h6 h7))
            all_goals
              go_wp2
              go_ret
              rw [HE.out]
              refine ⟨rfl, ?_, ((BW.out.mono HBase.out).drew).trans B5.out⟩
              rw [HDo.out]
              exact P5.out

end Go.Proofs.YtogcbmhcddcfkaaGreatDoor
