/- Package disk: Crash: contract, no statement. -/
import Derived.Test.YthbchloghbfnmaaDdw
namespace Go.Proofs.Ythbchloghbfnmaa
open Go.RowKit
set_option linter.unusedVariables false

def txtV (l : List UInt8) : Value := .string ⟨l.toArray⟩
/-- A slice of texts. -/
structure Txts (w : World) (A : Option Addr) (n : Nat) (ks : List (List UInt8)) : Prop where
  len : n = ks.length
  reads : Reads w A (ks.map txtV)
  most : n ≤ 1000000
  each : ∀ s ∈ ks, s.length ≤ 9223372036854775807
def crOne (ks : List (List UInt8)) (i : Nat) (r : Rg) : Rg := upR (setR (bitS (ks.getD i [])) r)
def crTo (ks : List (List UInt8)) (k : Nat) (rs : List Rg) : List Rg := rs.mapIdx fun i r => if i < k then crOne ks i r else r
def crA (ks : List (List UInt8)) (rs : List Rg) : List Rg := rs.mapIdx fun i r => crOne ks i r
theorem crTo_zero (ks : List (List UInt8)) (rs : List Rg) : crTo ks 0 rs = rs := by
  apply List.ext_getElem?
  intro i
  simp [crTo, List.getElem?_mapIdx]
theorem crTo_all (ks : List (List UInt8)) (rs : List Rg) {n : Nat} (hn : n = rs.length) : crTo ks n rs = crA ks rs := by
  subst hn
  apply List.ext_getElem?
  intro i
  simp only [crTo, crA, List.getElem?_mapIdx]
  by_cases h : i < rs.length
  · simp [h]
  · simp [List.getElem?_eq_none (Nat.le_of_not_lt h)]
theorem crTo_len (ks : List (List UInt8)) (k : Nat) (rs : List Rg) : (crTo ks k rs).length = rs.length := by simp [crTo]
theorem crTo_at (ks : List (List UInt8)) (k : Nat) (rs : List Rg) : (crTo ks k rs)[k]? = rs[k]? := by
  simp only [crTo, List.getElem?_mapIdx]
  cases rs[k]? <;> simp
theorem crTo_step (ks : List (List UInt8)) (k : Nat) (rs : List Rg) {r : Rg} (hr : rs[k]? = some r) : (crTo ks k rs).set k (crOne ks k r) = crTo ks (k + 1) rs := by
  apply List.ext_getElem?
  intro i
  have hk := (List.getElem?_eq_some_iff.1 hr).1
  rw [List.getElem?_set]
  simp only [crTo, List.getElem?_mapIdx, List.length_mapIdx]
  by_cases e : k = i
  · subst e
    have hrk : rs[k] = r := (List.getElem?_eq_some_iff.1 hr).2
    simp [hk]
    exact congrArg _ hrk.symm
  · rw [if_neg e]
    cases hi : rs[i]? with
    | none => rfl
    | some x =>
      simp only [Option.map_some]
      by_cases h : i < k
      · rw [if_pos h, if_pos (by omega)]
      · rw [if_neg h, if_neg (by omega)]
theorem set_same {w : World} {g : Nat} {t : TypeId} {u : Value} (h : Has w g t #[u]) : w.setCell ⟨g, 0, none⟩ u = w := by
  have e : (w.setCell ⟨g, 0, none⟩ u).heap = w.heap := by
    apply Array.ext_getElem?
    intro i
    by_cases hi : i = g
    · subst hi
      have h1 := h.store 0 u
      unfold Has at h h1
      rw [h1, h]
      simp
    · exact setCell_heap_other w ⟨g, 0, none⟩ u i hi
  have e2 : w.setCell ⟨g, 0, none⟩ u = { w with heap := (w.setCell ⟨g, 0, none⟩ u).heap } := rfl
  rw [e2, e]
section
variable {w : World} {T : Tg} {d D A : Nat} {rs : List Rg}
theorem Reads.tn {w w' : World} {T T' : Tg} {d : Nat} {A : Option Addr} {xs : List Value} (h : Reads w A xs) (k : Tn T d w T' w') (hT : ∀ a, A = some a → ∀ j, T a.block ≠ some (d, j)) : Reads w' A xs := fun hx => by
  obtain ⟨g, off, hA, hc⟩ := h hx
  refine ⟨g, off, hA, fun j u hj => ?_⟩
  have h1 := hc j u hj
  exact (cell_heap (p := ⟨g, off + j, none⟩) (k.block g (World.block_lt_of_cell? w _ h1) (hT _ hA))).trans h1
theorem Dk.loose_ (h : ∀ r ∈ rs, r.loose.length ≤ 1000) (ks : List (List UInt8)) (k : Nat) : ∀ r ∈ crTo ks k rs, r.loose.length ≤ 1000 := fun r hr => by
  obtain ⟨i, hi⟩ := List.mem_iff_getElem?.1 hr
  simp only [crTo, List.getElem?_mapIdx] at hi
  cases hq : rs[i]? with
  | none => simp [hq] at hi
  | some x =>
    simp only [hq, Option.map_some, Option.some.injEq] at hi
    have := h x (List.mem_of_getElem? hq)
    split at hi
    · subst hi
      simp [crOne, upR, setR]
    · subst hi
      exact this
set_option maxRecDepth 100000 in
set_option maxHeartbeats 4000000 in
theorem Crash_any (Ak : Option Addr) (n c : Nat) (ks : List (List UInt8)) (h : Dk w T d D A rs) (hlo : ∀ x t, T x = some t → x < w.heap.size) (hk : Txts w Ak n ks) (hT : 0 < n → ∀ a, Ak = some a → ∀ j, T a.block ≠ some (d, j)) (hm : ∀ r ∈ rs, r.loose.length ≤ 1000) (hl : rs.length ≤ 1000) :
    Calls Try.prog 19 #[.pointer (some ⟨D, 0, none⟩), .slice Ak n c] w (DkEnd (.tuple #[]) T d D A (crA ks rs) w) := by
  have HD := Lib.hid h
  have HLO := Lib.hid hlo
  have HK := Lib.hid hk
  have HT := Lib.hid hT
  have HM := Lib.hid hm
  have c0 := h.hd.cell0
  obtain ⟨N, hN⟩ : ∃ N, rs.length = N := ⟨_, rfl⟩
  rw [hN] at c0 hl
  have HN := Lib.hid hN
  have hnm : n ≤ 1000000 := hk.most
  clear h hlo hk hT hm hN
  go_enter Try.func19, Try.ntmps19
  go_wp2
  go_loopw [14] (fun ix wr => ∃ k : Nat, k ≤ N ∧ ix = .int .i64 (k : Int) ∧ ∃ T', Dk wr T' d D A (crTo ks k rs) ∧ Tn T d w T' wr) (fun ix _ => N - (intOf ix).toNat)
  case atStart => exact ⟨0, Nat.zero_le _, rfl, T, by rw [crTo_zero]; exact HD.out, Tn.refl _ _ _ HLO.out⟩
  case round =>
    obtain ⟨k, hkN, rfl, T1, hd1, ht1⟩ := hrel
    have D1 := Lib.hid hd1
    have T1H := Lib.hid ht1
    have LO1 : Hid (∀ x t, T1 x = some t → x < wr.heap.size) := Lib.hid (fun x t ht => ((ht1.lo (W0 := 0) (fun x t ht => ⟨Nat.zero_le _, HLO.out x t ht⟩) (Nat.zero_le _)) x t ht).2)
    have c0r := hd1.hd.cell0
    rw [crTo_len, HN.out] at c0r
    clear hd1 ht1
    by_cases hlt : k < N
    · have hkr : k < rs.length := by rw [HN.out]; exact hlt
      obtain ⟨r, hr⟩ : ∃ r, rs[k]? = some r := ⟨_, List.getElem?_eq_getElem hkr⟩
      have hr1 : (crTo ks k rs)[k]? = some r := by rw [crTo_at]; exact hr
      obtain ⟨s, hs⟩ : ∃ s, ks.getD k [] = s := ⟨_, rfl⟩
      have hsl : s.length ≤ 9223372036854775807 := by
        by_cases hkk : k < ks.length
        · have := HK.out.each (ks[k]) (List.getElem_mem hkk)
          rw [← hs, show ks.getD k [] = ks[k] by simp [List.getD, hkk]]
          exact this
        · rw [← hs, show ks.getD k [] = [] by simp [List.getD, List.getElem?_eq_none (Nat.le_of_not_lt hkk)]]
          exact Nat.zero_le _
      obtain ⟨W, hW⟩ : ∃ W, wr.alloc (.cells #[txtV s] 9) = W := ⟨_, rfl⟩
      have BW : Below wr.heap.size wr W := hW ▸ (Below.refl _ wr).alloc (Nat.le_refl _) _
      have HBx : Has W wr.heap.size 9 #[txtV s] := hW ▸ Has.made wr 9 #[txtV s]
      have DW := D1.out.below BW
      have LOW : ∀ x t, T1 x = some t → x < W.heap.size := fun x t ht => Nat.lt_of_lt_of_le (LO1.out x t ht) BW.size
      obtain ⟨m1, m2, v, ha⟩ := DW.at_ k r hr1
      have hmr := Dk.loose_ HM.out ks k r (List.mem_of_getElem? hr1)
      have HQ := Lib.hid (settle_crash s wr.heap.size W ha DW.blk_ LOW hmr HBx (fun j hj => by have := LO1.out _ _ hj; omega) hsl)
      have STEP := Lib.hid (crTo_step ks k rs hr)
      have TB := Lib.hid (Tn.below (d := d) BW LO1.out)
      have DWH := Lib.hid DW
      have BLK := Lib.hid DW.blk_
      have LOWH := Lib.hid LOW
      have TAH := Lib.hid ha.ta
      have c0w := (cellB c0r BW)
      have e1s : crOne ks k r = upR (setR (bitS s) r) := by rw [← hs]; rfl
      rw [e1s] at STEP
      have i0 : (0 : Int) ≤ (k : Int) := by omega
      have i1 : (k : Int) < (N : Int) := by omega
      have hrd : k < n → ∃ g off, Ak = some ⟨g, off, none⟩ ∧ (wr.alloc (.cells #[.string ⟨#[]⟩] 9)).cell? ⟨g, off + k, none⟩ = some (txtV s) := fun hkn => by
        have hkk : k < ks.length := by rw [← HK.out.len]; exact hkn
        obtain ⟨g, off, hA, hc⟩ := (HK.out.reads.tn T1H.out (HT.out (by omega))) (by simp; omega)
        refine ⟨g, off, hA, ?_⟩
        have h1 := hc k (txtV s) (by rw [List.getElem?_map, List.getElem?_eq_getElem hkk, ← hs]; simp [List.getD, hkk])
        exact (World.cell?_alloc_lt wr _ _ (World.block_lt_of_cell? wr _ h1)).trans h1
      have FIN := Lib.hid (fun (w2 : World) (T2 : Tg) (v2 : Value) (a2 : Ar w2 T2 d A k m1 m2 v2 (setR (bitS s) r)) (n2 : Nx T1 d A k W T2 w2) => by
        have b2 := n2.blk BLK.out
        have l2 := n2.lo LOWH.out
        have a3 := a2.setLeft (-1) b2 (by omega) (by omega)
        have n3 : Nx T2 d A k w2 T2 (w2.setCell ⟨A, k * 6 + 4, none⟩ (.int .i64 (-1))) := Nx.set (by omega) _ l2
        have a4 := a3.setDown false (n3.blk b2)
        have n4 : Nx T2 d A k _ T2 ((w2.setCell ⟨A, k * 6 + 4, none⟩ (.int .i64 (-1))).setCell ⟨A, k * 6 + 5, none⟩ (.bool false)) := Nx.set (by omega) _ (n3.lo l2)
        obtain ⟨cs, hcs⟩ := b2
        exact And.intro (And.intro (DWH.out.put ((n2.trans n3).trans n4) a4) (((n2.trans n3).trans n4).tn TAH.out)) (And.intro a2.c4 (And.intro a3.c5 (And.intro (hcs.free (k * 6 + 4)) ((hcs.store (k * 6 + 4) (.int .i64 (-1))).free (k * 6 + 5))))))
      have hs0 : ¬ k < n → s = [] := fun hkn => by
        rw [← hs]
        simp [List.getD, List.getElem?_eq_none (show ks.length ≤ k by rw [← HK.out.len]; omega)]
      clear hr hr1 hs DW LOW ha hmr hkr HBx BW e1s
      by_cases hkn : k < n
      · obtain ⟨g, off, hA, hcg⟩ := hrd hkn
        subst hA
        have i2 : (k : Int) < (n : Int) := by omega
        clear hrd hs0
        unfold txtV at hcg hW
        go_wp2_with (first
          | (go_at_call 38; (with_reducible refine HQ.out.mono ?_); rintro e w2 ⟨rfl, T2, v2, a2, n2⟩; obtain ⟨⟨dd, tt⟩, e4, e5, f4, f5⟩ := FIN.out w2 T2 v2 a2 n2; have DD := Lib.hid dd; have TT := Lib.hid (T1H.out.trans (TB.out.trans tt)); clear a2 n2 dd tt))
        go_roundw
        case rel => exact ⟨k + 1, by omega, by go_num, T2, by rw [← STEP.out]; exact DD.out, TT.out⟩
        case measure => simp [intOf]; omega
      · have i2 : ¬ (k : Int) < (n : Int) := by omega
        obtain rfl := hs0 hkn
        clear hrd hs0
        have hW : wr.alloc (.cells #[.string ⟨#[]⟩] 9) = W := hW
        have hB0 : Has W wr.heap.size 9 #[.string ⟨#[]⟩] := hW ▸ Has.made wr 9 #[.string ⟨#[]⟩]
        have cB := hB0.cell0
        have fB := hB0.free 0
        have sB := set_same hB0
        go_wp2_with (first
          | (go_at_call 38; (with_reducible refine HQ.out.mono ?_); rintro e w2 ⟨rfl, T2, v2, a2, n2⟩; obtain ⟨⟨dd, tt⟩, e4, e5, f4, f5⟩ := FIN.out w2 T2 v2 a2 n2; have DD := Lib.hid dd; have TT := Lib.hid (T1H.out.trans (TB.out.trans tt)); clear a2 n2 dd tt))
        go_roundw
        case rel => exact ⟨k + 1, by omega, by go_num, T2, by rw [← STEP.out]; exact DD.out, TT.out⟩
        case measure => simp [intOf]; omega
    · obtain rfl : k = N := by omega
      obtain ⟨w3, hw3⟩ : ∃ w3 : World, w3 = wr := ⟨_, rfl⟩
      subst hw3
      have E := Lib.hid (crTo_all ks rs HN.out.symm)
      go_wp2
      refine bodyPost_end (results_none rfl _ _ _) rfl ?_
      exact ⟨rfl, T1, by rw [← E.out]; exact D1.out, T1H.out⟩
theorem Crash_nil (v : Value) (w : World) : Calls Try.prog 19 #[.pointer none, v] w fun e w' => e = .returned (.tuple #[]) ∧ w = w' := by
  go_enter Try.func19, Try.ntmps19
  go_wp2
  refine bodyPost_ret (results_none rfl _ _ _) rfl ?_
  exact ⟨rfl, rfl⟩

end

end Go.Proofs.Ythbchloghbfnmaa
