/- Layer 14: the landed code: Sum, Low, Neighbour, the iterator of splits: contracts, no statement. -/
import Derived.Test.YtnidommmnmpdlaaCta
import Derived.Test.YtnidommmnmpdlaaRga
import Derived.RangeFuncLeaves
import Derived.RangeFuncBox
import Derived.OwnWalkIn
import Derived.TacticsInMore
import Derived.LoopNIn
import Derived.LoopIn
namespace Go.Proofs.Ytnidommmnmpdlaa
open Go.RowKit
set_option linter.unusedVariables false
attribute [local go_sem] Oper.semAt_some

set_option maxRecDepth 100000 in
theorem cuSum_q (l : List Int) (A : Option Addr) (n c : Nat) (w : World) (h : RowZ w A n c l) (hs : SizZ l) :
    Calls Try.prog 9 #[.slice A n c] w fun e w' => e = .returned (.int .i64 (sumZ l)) ∧ w = w' := by
  have HA := Lib.hid h.reads
  have HN := Lib.hid h.len
  have hnn : n ≤ 101 := by rw [h.len]; exact hs.2
  have HS := Lib.hid hs
  clear h hs
  go_enter Try.func9, Try.ntmps9
  go_wp2
  go_loop [3, 8] (fun v i => ∃ k : Nat, k ≤ n ∧ i = .int .i64 (k : Int) ∧ v = .int .i64 (sumZ (l.take k))) (fun _ i => n - (intOf i).toNat)
  case atStart => exact ⟨0, Nat.zero_le _, rfl, by simp [sumZ]⟩
  case round =>
    obtain ⟨k, hk, rfl, rfl⟩ := hrel
    by_cases hlt : k < n
    · have hkl : k < l.length := by have := HN.out; omega
      obtain ⟨g, off, rfl, ck⟩ := HA.out.zint14 hkl
      have hm := HS.out.1 l[k] (List.getElem_mem hkl)
      have hb := sumZ_take HS.out k
      have HM := Lib.hid (sumZ_more hkl)
      obtain ⟨x, hx⟩ : ∃ x, l[k] = x := ⟨_, rfl⟩
      obtain ⟨q, hq⟩ : ∃ q, sumZ (l.take k) = q := ⟨_, rfl⟩
      rw [hx] at ck hm HM
      rw [hq] at hb HM ⊢
      obtain ⟨b1, b2⟩ := hb
      obtain ⟨m1, m2⟩ := hm
      have i0 : (0 : Int) ≤ (k : Int) := by omega
      have i1 : (k : Int) < (n : Int) := by omega
      clear hx hq hkl
      go_wp2
      go_round
      case rel => exact ⟨k + 1, by omega, by go_num, by rw [HM.out]⟩
      case measure => simp [intOf]; omega
    · obtain rfl : k = n := by omega
      have e : l.take k = l := List.take_of_length_le (by rw [← HN.out]; exact Nat.le_refl _)
      rw [e]
      have i1 : ¬ (k : Int) < (k : Int) := by omega
      go_wp2
      go_ret
      exact ⟨rfl, rfl⟩
theorem cuSum_any (l : List Int) (A : Option Addr) (n c : Nat) (w : World) (h : RowZ w A n c l) (hs : SizZ l) :
    Calls Try.prog 9 #[.slice A n c] w fun e w' => e = .returned (.int .i64 (sumZ l)) ∧ Below w.heap.size w w' :=
  (cuSum_q l A n c w h hs).mono (by rintro e w' ⟨rfl, rfl⟩; exact ⟨rfl, Below.refl _ _⟩)
set_option maxRecDepth 100000 in
theorem cuLow_any (l : List Int) (A : Option Addr) (n c : Nat) (w : World) (h : RowZ w A n c l) (hs : SizZ l) :
    Calls Try.prog 13 #[.slice A n c] w fun e w' => e = .returned (.bool (decide (sumZ l < 30))) ∧ Below w.heap.size w w' := by
  have HS := Lib.hid (cuSum_q l A n c w h hs)
  clear h hs
  go_enter Try.func13, Try.ntmps13
  go_wp2_with (go_at_call 9; (with_reducible refine HS.out.mono ?_); rintro e w1 ⟨rfl, rfl⟩)
  go_ret
  exact ⟨rfl, Below.refl _ _⟩
set_option maxRecDepth 100000 in
theorem cuNeigh_any (m k : Int) (w : World) (hm : 0 ≤ m ∧ m ≤ 1000) (hk : 0 ≤ k ∧ k ≤ 1000) :
    Calls Try.prog 15 #[.int .i64 m, .int .i64 k] w fun e w' => e = .returned (.int .i64 (if k + 1 < m then k + 1 else k - 1)) ∧ Below w.heap.size w w' := by
  obtain ⟨m1, m2⟩ := hm
  obtain ⟨k1, k2⟩ := hk
  by_cases h : k + 1 < m
  · have h3 : k < m := by omega
    go_enter Try.func15, Try.ntmps15
    go_wp2
    go_ret
    exact ⟨rfl, Below.refl _ _⟩
  · by_cases h3 : k < m
    · go_enter Try.func15, Try.ntmps15
      go_wp2
      go_ret
      exact ⟨rfl, Below.refl _ _⟩
    · go_enter Try.func15, Try.ntmps15
      go_wp2
      go_ret
      exact ⟨rfl, Below.refl _ _⟩
theorem cuSplits_any (A : Option Addr) (n c : Nat) (w : World) : Calls Try.prog 17 #[.slice A n c] w fun e w' => e = .returned (.func (.func 19) #[] #[.pointer (some ⟨w.heap.size, 0, none⟩)]) ∧ w.alloc (.cells #[.slice A n c] 22) = w' := by
  go_enter Try.func17, Try.ntmps17
  go_wp2
  go_ret
  exact ⟨rfl, rfl⟩

/-- What is handed to a round. -/
def encZ (l : List Int) (k : Nat) : Array Value := #[.int .i64 (k : Int), .agg #[.int .i64 (sumZ (l.take k)), .int .i64 (sumZ (l.drop k))]]
/-- All cells stay but those of two blocks. -/
def KpZ (a b : Nat) (W W' : World) : Prop := W.heap.size ≤ W'.heap.size ∧ ∀ (k : Nat) (o : Obj), W.heap[k]? = some o → o.isCells = true → k ≠ a → k ≠ b → W'.heap[k]? = some o
theorem KpZ.trans {a b : Nat} {X Y Z : World} (h : KpZ a b X Y) (k : KpZ a b Y Z) : KpZ a b X Z := ⟨Nat.le_trans h.1 k.1, fun i o hi ho ha hb => k.2 i o (h.2 i o hi ho ha hb) ho ha hb⟩
theorem KpZ.put (a b : Nat) (W : World) (k : Nat) (o o' : Obj) (h : W.heap[k]? = some o) (ho : o.isCells = false) : KpZ a b W (W.putObj k o') :=
  ⟨by simp, fun i o1 hi ho1 _ _ => (World.putObj_heap_other (fun e => by subst e; rw [h] at hi; injection hi with hi; subst hi; rw [ho] at ho1; cases ho1)).trans hi⟩
theorem KpZ.has {a b : Nat} {W W' : World} (h : KpZ a b W W') {g : Nat} {t : TypeId} {cs : Array Value} (hc : Has W g t cs) (ha : g ≠ a) (hb : g ≠ b) : Has W' g t cs := h.2 g _ hc rfl ha hb
theorem KpZ.cell {a b : Nat} {W W' : World} (h : KpZ a b W W') {p : Addr} {v : Value} (hc : W.cell? p = some v) (ha : p.block ≠ a) (hb : p.block ≠ b) : W'.cell? p = some v := by
  have hlt := World.block_lt_of_cell? W p hc
  have hq : W'.heap[p.block]? = W.heap[p.block]? → W'.cell? p = W.cell? p := fun h => by unfold World.cell?; rw [h]
  refine (hq ?_).trans hc
  have hg : W.heap[p.block]? = some W.heap[p.block] := Array.getElem?_eq_getElem hlt
  refine (h.2 _ _ hg ?_ ha hb).trans hg.symm
  revert hc
  unfold World.cell?
  rw [hg]
  cases W.heap[p.block] <;> simp [Obj.isCells]
theorem KpZ.row {a b : Nat} {W W' : World} (h : KpZ a b W W') {A : Option Addr} {n c : Nat} {l : List Int} (hr : RowZ W A n c l) (hA : ∀ p, A = some p → p.block ≠ a ∧ p.block ≠ b) : RowZ W' A n c l :=
  ⟨hr.len, fun hx => by
    obtain ⟨g, off, e, hc⟩ := hr.reads hx
    exact ⟨g, off, e, fun j u hj => h.cell (hc j u hj) (hA _ e).1 (hA _ e).2⟩, hr.nil, hr.room, hr.most⟩
theorem KpZ.store (a : Nat) (W : World) (i : Nat) (v : Value) : KpZ a a W (W.setCell ⟨a, i, none⟩ v) :=
  ⟨Nat.le_of_eq (by simp), fun k o hk _ ha _ => (Below.heap_setCell W ⟨a, i, none⟩ v k ha).trans hk⟩
theorem front_zero (l : List Int) : sumZ (l.take 0) = 0 := by simp [sumZ]
theorem sumZ_less {l : List Int} {k : Nat} (h : k < l.length) : sumZ (l.drop k) = l[k] + sumZ (l.drop (k + 1)) := by
  rw [List.drop_eq_getElem_cons h]
  rfl
set_option maxRecDepth 100000 in
set_option maxHeartbeats 2000000 in
theorem cuSplits1_in (m : Nat) (hm : 1 ≤ m) (L a b : Nat) (l : List Int) (A : Option Addr) (n c Bs : Nat) (hs : SizZ l) (W : World) (h : RowZ W A n c l) (hA : ∀ p, A = some p → p.block ≠ a ∧ p.block ≠ b) (hB : Boxed W Bs 22 (.slice A n c)) (hBa : Bs ≠ a) (hBb : Bs ≠ b) (ha : a < W.heap.size) (hb : b < W.heap.size)
    (J : List Nat → World → Prop) (hJ : Minds W.heap.size J)
    (hY : ∀ (pre : List Nat) (x : Nat) (X : World), J pre X → (x = pre.length + 1 ∧ x < l.length) → YieldAt Fence.wide (m - 1) Try.prog L (encZ l x) X fun e Y => e = .returned (.bool true) ∧ J (pre ++ [x]) Y ∧ KpZ a b X Y)
    (h0 : J [] W) :
    CallsIn Fence.wide m Try.prog 19 #[.func (.yield L) #[] #[], .pointer (some ⟨Bs, 0, none⟩)] W fun e Y => (∃ v, e = .returned v) ∧ ∃ xs : List Nat, xs.length = l.length - 1 ∧ J xs Y := by
  have HQ := Lib.hid (cuSum_q l A n c W h hs)
  have hn := h.len
  have hnn : n ≤ 101 := by rw [hn]; exact hs.2
  have hsb := hs.sum
  have HS := Lib.hid hs
  have hcB := hB.cell
  refine callsIn_of_wp Try.func19 rfl trivial ?_ rfl
  simp only [Try.ntmps19, List.size_toArray, List.length_cons, List.length_nil, Nat.reduceAdd, Nat.reduceSub, Array.replicate_succ, Array.replicate_zero, List.push_toArray, List.append_toArray, List.nil_append, List.cons_append]
  have HJ0 := Lib.hid h0
  have HJ := Lib.hid hJ
  have HY := Lib.hid hY
  have HR := Lib.hid h
  have HAa := Lib.hid hA
  have HN := Lib.hid hn
  clear h0 hJ hY h hA hn hs
  have hc1 := (hB.alloc (.cells #[.int .i64 0, .int .i64 (sumZ l)] 33)).cell
  gi_wp2_with (refine ⟨trivial, ?_⟩; gi_at_call 9; refine (callsIn_wide.2 HQ.out).mono ?_; rintro e w1 ⟨rfl, rfl⟩)
  obtain ⟨W1, hW1⟩ : ∃ W1, W.alloc (.cells #[.int .i64 0, .int .i64 (sumZ l)] 33) = W1 := ⟨_, rfl⟩
  have b1 : Boxed W1 Bs 22 (.slice A n c) := hW1 ▸ hB.alloc _
  have p1 : Has W1 W.heap.size 33 #[.int .i64 0, .int .i64 (sumZ l)] := hW1 ▸ Has.made W 33 _
  have r1 : RowZ W1 A n c l := hW1 ▸ HR.out.below ((Below.refl _ W).alloc (Nat.le_refl _) _)
  have j1 : J [] W1 := hW1 ▸ HJ.out.new _ HJ0.out
  have s1 : W.heap.size < W1.heap.size := p1.lt
  have HAP0 : Hid (l ≠ [] → ∀ p : Addr, A = some p → p.block ≠ W.heap.size ∧ p.block ≠ W.heap.size) := Lib.hid (fun hne p e => by
    obtain ⟨g, off, e2, hc⟩ := HR.out.reads.zint14 (List.length_pos_iff.2 hne)
    have := World.block_lt_of_cell? W _ hc
    rw [e] at e2
    cases e2
    simp only at this ⊢
    omega)
  obtain ⟨Pp, hPp⟩ : ∃ Pp, W.heap.size = Pp := ⟨_, rfl⟩
  rw [hW1]
  rw [hPp] at p1 s1 HJ ha hb HAP0 ⊢
  have hBP : Bs ≠ Pp := by have := hB.lt; omega
  clear hW1 HQ hB hcB hc1 HR HJ0 hsb
  gi_loopw [11] (fun v wr => ∃ (k : Nat) (pre : List Nat), v = .int .i64 (k : Int) ∧ k ≤ n ∧ pre.length = k - 1 ∧ J pre wr ∧ Boxed wr Bs 22 (.slice A n c) ∧ RowZ wr A n c l ∧ Has wr Pp 33 #[.int .i64 (sumZ (l.take k)), .int .i64 (sumZ (l.drop k))]) (fun v _ => n - (intOf v).toNat)
  case atStart => exact ⟨0, [], rfl, Nat.zero_le _, rfl, j1, b1, r1, by simpa [sumZ] using p1⟩
  case round =>
    obtain ⟨k, pre, rfl, hk, hpre, hJk, bk, rk, pk⟩ := hrel
    by_cases hlt : k < n
    · have hkl : k < l.length := by have := HN.out; omega
      obtain ⟨g, off, rfl, ck⟩ := rk.reads.zint14 hkl
      have HAP := Lib.hid (HAP0.out (by intro e; rw [e] at hkl; exact absurd hkl (by simp)))
      clear HAP0
      have hm := HS.out.1 l[k] (List.getElem_mem hkl)
      have hf := sumZ_take HS.out k
      have hb2 := (HS.out.back k).sum
      have hf1 := sumZ_take HS.out (k + 1)
      have hb1 := (HS.out.back (k + 1)).sum
      have HM := Lib.hid (sumZ_more hkl)
      have HL := Lib.hid (sumZ_less hkl)
      have i0 : (0 : Int) ≤ (k : Int) := by omega
      have i1 : (k : Int) < (n : Int) := by omega
      have HY2 := Lib.hid (HY.out pre k wr hJk)
      unfold encZ at HY2
      obtain ⟨x, hx⟩ : ∃ x, l[k] = x := ⟨_, rfl⟩
      obtain ⟨q, hq⟩ : ∃ q, sumZ (l.take k) = q := ⟨_, rfl⟩
      obtain ⟨r, hr⟩ : ∃ r, sumZ (l.drop k) = r := ⟨_, rfl⟩
      obtain ⟨q2, hq2⟩ : ∃ q, sumZ (l.take (k + 1)) = q := ⟨_, rfl⟩
      obtain ⟨r2, hr2⟩ : ∃ r, sumZ (l.drop (k + 1)) = r := ⟨_, rfl⟩
      rw [hx] at ck hm HM HL
      rw [hq] at hf HM pk HY2
      rw [hr] at hb2 HL pk HY2
      rw [hq2] at hf1 HM
      rw [hr2] at hb1 HL
      clear hx hq hr
      have cp0 := pk.cell 0
      have cp1 := pk.cell 1
      have HPK := Lib.hid pk
      have HKL := Lib.hid hkl
      have HQ2 := Lib.hid hq2
      have HR2 := Lib.hid hr2
      have HPRE := Lib.hid hpre
      clear hq2 hr2 hpre
      have hfin : ∀ (pre2 : List Nat) (w3 : World), J pre2 w3 → Boxed w3 Bs 22 (.slice (some ⟨g, off, none⟩) n c) → RowZ w3 (some ⟨g, off, none⟩) n c l → Has w3 Pp 33 #[.int .i64 q, .int .i64 r] →
          J pre2 ((w3.setCell ⟨Pp, 0, none⟩ (.int .i64 (q + x))).setCell ⟨Pp, 1, none⟩ (.int .i64 (r - x))) ∧ Boxed ((w3.setCell ⟨Pp, 0, none⟩ (.int .i64 (q + x))).setCell ⟨Pp, 1, none⟩ (.int .i64 (r - x))) Bs 22 (.slice (some ⟨g, off, none⟩) n c) ∧ RowZ ((w3.setCell ⟨Pp, 0, none⟩ (.int .i64 (q + x))).setCell ⟨Pp, 1, none⟩ (.int .i64 (r - x))) (some ⟨g, off, none⟩) n c l ∧ Has ((w3.setCell ⟨Pp, 0, none⟩ (.int .i64 (q + x))).setCell ⟨Pp, 1, none⟩ (.int .i64 (r - x))) Pp 33 #[.int .i64 (q + x), .int .i64 (r - x)] := by
        intro pre2 w3 h1 h2 h3 h4
        have g4 : Has (w3.setCell ⟨Pp, 0, none⟩ (.int .i64 (q + x))) Pp 33 #[.int .i64 (q + x), .int .i64 r] := h4.store 0 _
        refine ⟨HJ.out.store _ _ (HJ.out.store _ _ h1 (Nat.le_refl _)) (Nat.le_refl _), ?_, ?_, g4.store 1 _⟩
        · exact (KpZ.store Pp _ 1 _).has (cs := #[.slice (some ⟨g, off, none⟩) n c]) ((KpZ.store Pp _ 0 _).has (cs := #[.slice (some ⟨g, off, none⟩) n c]) h2 hBP hBP) hBP hBP
        · exact (KpZ.store Pp _ 1 _).row ((KpZ.store Pp _ 0 _).row h3 HAP.out) HAP.out
      have HF := Lib.hid hfin
      clear hfin HAP
      by_cases hk0 : 0 < k
      · have i2 : (0 : Int) < (k : Int) := by omega
        obtain ⟨fn, tmps, assign, body, hyy, hRR⟩ := HY2.out ⟨by have := HPRE.out; omega, HKL.out⟩
        have HRR := Lib.hid hRR
        clear hRR HY2 cp0 cp1
        have cp0 := HPK.out.cell 0
        have cp1 := HPK.out.cell 1
        gi_wp2
        refine HRR.out.mono ?_
        rintro e W3 ⟨rfl, hJ3, hk3⟩
        have b3 : Boxed W3 Bs 22 (.slice (some ⟨g, off, none⟩) n c) := hk3.has (cs := #[.slice (some ⟨g, off, none⟩) n c]) bk hBa hBb
        have r3 := hk3.row rk HAa.out
        have p3 := hk3.has HPK.out (by omega) (by omega)
        obtain ⟨z1, z2, z3, z4⟩ := HF.out (pre ++ [k]) W3 hJ3 b3 r3 p3
        have d0 := p3.cell 0
        have d1 := p3.cell 1
        have f0 := p3.free 0
        have f1 := p3.free 1
        have HK3 := Lib.hid hk3
        clear hk3 cp0 cp1
        gi_wp2
        go_roundw
        case rel => exact ⟨k + 1, pre ++ [k], by go_num, by omega, by have := HPRE.out; simp [this]; omega, z1, z2, z3, by rw [HQ2.out, HR2.out, HM.out, show r2 = r - x by have := HL.out; omega]; exact z4⟩
        case measure => simp [intOf]; omega
      · have i2 : ¬ (0 : Int) < (k : Int) := by omega
        obtain ⟨z1, z2, z3, z4⟩ := HF.out pre wr hJk bk rk HPK.out
        have f0 := HPK.out.free 0
        have f1 := HPK.out.free 1
        gi_wp2
        refine ⟨fun _ _ => trivial, ?_⟩
        gi_wp2
        go_roundw
        case rel => exact ⟨k + 1, pre, by go_num, by omega, by have := HPRE.out; omega, z1, z2, z3, by rw [HQ2.out, HR2.out, HM.out, show r2 = r - x by have := HL.out; omega]; exact z4⟩
        case measure => simp [intOf]; omega
    · obtain rfl : k = n := by omega
      have i1 : ¬ (k : Int) < (k : Int) := by omega
      have HP := Lib.hid hpre
      gi_wp2
      go_end0
      exact ⟨⟨_, rfl⟩, pre, by rw [HP.out, HN.out], hJk⟩
end Go.Proofs.Ytnidommmnmpdlaa
