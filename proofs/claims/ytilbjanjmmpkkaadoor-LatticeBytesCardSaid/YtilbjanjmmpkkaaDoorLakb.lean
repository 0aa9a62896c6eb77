/- Package lattice: each and what it walks, and List: contracts, no statement. -/
import Derived.Test.YtilbjanjmmpkkaaDoorLate
import Derived.RangeFuncNested
import Derived.RangeFuncBound
import Derived.RangeFuncCalls
import Derived.RangeFuncLeaves
import Derived.RangeFuncBox
import Derived.Shelf.Abstract
import Derived.Shelf.RegionOpen
import Derived.OwnWalkIn
import Derived.TacticsInMore
import Derived.LoopNIn
import Derived.LoopIn
import Derived.Maps.AppendAt
import Derived.Lib.TrailingZeros
import Derived.Shelf.Spec.TrailingZeros
namespace Go.Proofs.YtilbjanjmmpkkaaDoor
open Go.RowKit Go.Shelf
set_option linter.unusedVariables false
attribute [local go_sem] Oper.semAt_some

/-! The lowest bit. -/
theorem range_split (q n : Nat) (hq : q < n) : List.range n = List.range q ++ (q :: List.range' (q + 1) (n - q - 1)) := by
  rw [List.range_eq_range', List.range_eq_range']
  have e1 : q :: List.range' (q + 1) (n - q - 1) = List.range' q (n - q) := by
    obtain ⟨m, hm⟩ : ∃ m, n - q = m + 1 := ⟨n - q - 1, by omega⟩
    rw [hm, List.range'_succ]
    rfl
  rw [e1]
  have := List.range'_append_1 (s := 0) (m := q) (n := n - q)
  rw [Nat.zero_add] at this
  rw [this]
  congr 1
  omega
theorem listN_zero : listN 0 = [] := by simp [listN]
theorem and_pred (k m : Nat) : (2 ^ k * (2 * m + 1)) &&& (2 ^ k * (2 * m + 1) - 1) = 2 ^ k * (2 * m) := by
  have hp := Nat.pow_pos (n := k) (show 0 < 2 by omega)
  have e1 : 2 ^ k * (2 * m + 1) - 1 = 2 ^ k * (2 * m) + (2 ^ k - 1) := by rw [Nat.mul_add, Nat.mul_one]; omega
  have e0 : 2 ^ k * (2 * m + 1) = 2 ^ k * (2 * m + 1) + 0 := by omega
  have e2 : 2 ^ k * (2 * m) = 2 ^ k * (2 * m) + 0 := by omega
  apply Nat.eq_of_testBit_eq
  intro i
  rw [Nat.testBit_and, e1, Nat.testBit_two_pow_mul_add _ (by omega)]
  conv => lhs; lhs; rw [e0, Nat.testBit_two_pow_mul_add _ hp]
  conv => rhs; rw [e2, Nat.testBit_two_pow_mul_add _ hp]
  by_cases hi : i < k
  · simp [hi]
  · rw [if_neg hi, if_neg hi, if_neg hi]
    by_cases hk : i - k = 0
    · rw [hk, Nat.testBit_zero, Nat.testBit_zero]
      simp
    · obtain ⟨j, hj⟩ : ∃ j, i - k = j + 1 := ⟨i - k - 1, by omega⟩
      rw [hj, Nat.testBit_succ, Nat.testBit_succ, show (2 * m + 1) / 2 = 2 * m / 2 by omega, Bool.and_self]
theorem listN_step (x : Nat) (h0 : x ≠ 0) (hx : x < 2 ^ 64) : listN x = Lib.ctz 64 x :: listN (x &&& (x - 1)) ∧ Lib.ctz 64 x < 64 ∧ x &&& (x - 1) < 2 ^ 64 := by
  obtain ⟨m, hm, hk⟩ := Lib.ctzFrom_spec 64 x (by omega) hx
  have hc : Lib.ctz 64 x = Lib.ctzFrom 64 x := by unfold Lib.ctz; rw [if_neg h0]
  rw [hc]
  generalize Lib.ctzFrom 64 x = k at hm hk
  have hp := Nat.pow_pos (n := k) (show 0 < 2 by omega)
  have he : x &&& (x - 1) = 2 ^ k * (2 * m) := by rw [hm]; exact and_pred k m
  have hbx : ∀ i, x.testBit i = if i < k then false else (2 * m + 1).testBit (i - k) := fun i => by
    have := Nat.testBit_two_pow_mul_add (2 * m + 1) hp i
    rw [Nat.add_zero, ← hm] at this
    rw [this]
    simp
  have hby : ∀ i, (2 ^ k * (2 * m)).testBit i = if i < k then false else (2 * m).testBit (i - k) := fun i => by
    have := Nat.testBit_two_pow_mul_add (2 * m) hp i
    rw [Nat.add_zero] at this
    rw [this]
    simp
  refine ⟨?_, hk, by rw [he]; have : 2 ^ k * (2 * m + 1) = 2 ^ k * (2 * m) + 2 ^ k := by rw [Nat.mul_add, Nat.mul_one]
                     omega⟩
  rw [he]
  unfold listN
  rw [range_split k 64 hk, List.filter_append, List.filter_append]
  have f1 : (List.range k).filter (fun i => x.testBit i) = [] := by
    rw [List.filter_eq_nil_iff]
    intro i hi
    rw [hbx i, if_pos (by simpa using hi)]
    simp
  have f2 : (List.range k).filter (fun i => (2 ^ k * (2 * m)).testBit i) = [] := by
    rw [List.filter_eq_nil_iff]
    intro i hi
    rw [hby i, if_pos (by simpa using hi)]
    simp
  rw [f1, f2, List.filter_cons, List.filter_cons]
  have g1 : x.testBit k = true := by rw [hbx k, if_neg (by omega), Nat.sub_self, Nat.testBit_zero]; simp
  have g2 : (2 ^ k * (2 * m)).testBit k = false := by rw [hby k, if_neg (by omega), Nat.sub_self, Nat.testBit_zero]; simp
  rw [g1, g2]
  simp only [if_true, List.nil_append]
  congr 1
  apply List.filter_congr
  intro i hi
  have hlt := (List.mem_range'_1.1 hi).1
  rw [hbx i, hby i, if_neg (by omega), if_neg (by omega)]
  obtain ⟨j, hj⟩ : ∃ j, i - k = j + 1 := ⟨i - k - 1, by omega⟩
  rw [hj, Nat.testBit_succ, Nat.testBit_succ, show (2 * m + 1) / 2 = 2 * m / 2 by omega]

/-! bits.TrailingZeros64 -/
set_option maxHeartbeats 1000000 in
theorem tz_core (x k idx : Nat) (w : World) (hx0 : ((x : Int) == 0) = false)
    (key : IntKind.u64.wrap (bits BinOp.and IntKind.u64 (x : Int) (IntKind.u64.wrap (-(x : Int))) * 285870213051353865) / 288230376151711744 = (idx : Int))
    (hi : idx < 64) (hk : k < 64) (hcell : w.cell? ⟨0, idx, none⟩ = some (.int .u8 k)) :
    Calls Tryd.prog 57 #[.int .u64 x] w fun e w' => e = .returned (.int .i64 k) ∧ w = w' := by
  go_enter Tryd.func57, Tryd.ntmps57
  go_wp2_with (simp only [key])
  go_ret
  exact ⟨rfl, rfl⟩
theorem tz_any (x : Nat) (hx : x < 2 ^ 64) (h0 : x ≠ 0) (w : World) (hT : TabAt 0 Lib.deBruijn64tab w) :
    Calls Tryd.prog 57 #[.int .u64 x] w fun e w' => e = .returned (.int .i64 (Lib.ctz 64 x)) ∧ w = w' := by
  obtain ⟨hlow, hk⟩ := Lib.lowest_bit 64 x h0 hx
  obtain ⟨hi, htab⟩ := Lib.deBruijn64_at _ hk
  have hcell := hT _ hi
  rw [htab] at hcell
  exact tz_core x _ _ w (by simp; omega) (tz64_key x _ hx h0 hlow) hi hk hcell

/-! The iterator. -/
theorem each_any (x : Nat) (w : World) : Calls Tryd.prog 46 #[.int .u64 x] w fun e w' => e = .returned (.func (.func 56) #[] #[.pointer (some ⟨w.heap.size, 0, none⟩)]) ∧ w.alloc (.cells #[.int .u64 x] 25) = w' := by
  go_enter Tryd.func46, Tryd.ntmps46
  go_wp2
  go_ret
  exact ⟨rfl, rfl⟩

set_option maxRecDepth 100000 in
set_option maxHeartbeats 1000000 in
theorem each1_in (F : Fence) (n : Nat) (hF : F.fn 56) (hT52 : F.fn 57) (hro : F.round = none) (hw : F = Fence.wide) (hn : 1 ≤ n) (l Bx n₀ x : Nat) (hx : x < 2 ^ 64) (J Jx : List Nat → World → Prop)
    (hY : ∀ (pre : List Nat) (k : Nat) (W : World), J pre W → pre.length < 64 → YieldAt F (n - 1) Tryd.prog l #[.int .i64 k] W fun e W' =>
      (e = .returned (.bool true) ∧ J (pre ++ [k]) W' ∧ Below n₀ W W') ∨ (e = .returned (.bool false) ∧ Jx (pre ++ [k]) W'))
    (W : World) (hBx : W.cell? ⟨Bx, 0, none⟩ = some (.int .u64 x)) (hTab : TabAt 0 Lib.deBruijn64tab W) (h0n : 0 < n₀) (h0 : J [] W) :
    CallsIn F n Tryd.prog 56 #[.func (.yield l) #[] #[], .pointer (some ⟨Bx, 0, none⟩)] W fun e W' => (∃ v, e = .returned v) ∧
      ((∃ ys, ys = listN x ∧ J ys W') ∨ (∃ pre, pre <+: listN x ∧ Jx pre W')) := by
  refine callsIn_of_wp Tryd.func56 rfl hF ?_ hro
  simp only [Tryd.ntmps56, List.size_toArray, List.length_cons, List.length_nil, Nat.reduceAdd, Nat.reduceSub, Array.replicate_succ, Array.replicate_zero, List.push_toArray, List.append_toArray, List.nil_append, List.cons_append]
  subst hw
  gi_wp2
  gi_loopw [3] (fun v wr => ∃ (pre : List Nat) (y : Nat), v = .int .u64 y ∧ y < 2 ^ 64 ∧ listN x = pre ++ listN y ∧ J pre wr ∧ TabAt 0 Lib.deBruijn64tab wr) (fun v _ => (intOf v).toNat)
  case atStart => exact ⟨[], x, rfl, hx, rfl, h0, hTab⟩
  case round =>
    obtain ⟨pre, y, rfl, hy64, hl, hJ, hTw⟩ := hrel
    by_cases hy0 : y = 0
    · have HL := Lib.hid hl
      subst hy0
      clear hl
      gi_wp2
      go_end0
      exact ⟨⟨_, rfl⟩, .inl ⟨pre, by rw [HL.out, listN_zero, List.append_nil], hJ⟩⟩
    · obtain ⟨hs, hk, hy2⟩ := listN_step y hy0 hy64
      have hlen : pre.length < 64 := by
        have h1 : (listN x).length ≤ 64 := by
          unfold listN
          have := List.length_filter_le (fun k => x.testBit k) (List.range 64)
          simpa using this
        rw [hl, hs] at h1
        simp at h1
        omega
      have HTZ := Lib.hid (fun w1 (h : TabAt 0 Lib.deBruijn64tab w1) => tz_any y hy64 hy0 w1 h)
      have HL := Lib.hid hl
      have HS := Lib.hid hs
      have HT := Lib.hid hTw
      have hyn : ((y : Int) != 0) = true := by simp; omega
      have HDec : Hid (y &&& (y - 1) < y) := Lib.hid (by
        have : y &&& (y - 1) ≤ y - 1 := Nat.and_le_right
        omega)
      have HAnd : Hid (bits .and .u64 (y : Int) ((y : Int) - 1) = ((y &&& (y - 1) : Nat) : Int)) := Lib.hid (by
        have := u64_and_nat y (y - 1) (by omega) (by omega)
        rw [← this]
        congr 1
        omega)
      generalize Lib.ctz 64 y = k at HTZ HS hk
      generalize y &&& (y - 1) = y2 at HS HDec HAnd hy2
      obtain ⟨fn, tmps, assign, body, hyy, hR⟩ := hY pre k wr hJ hlen
      clear hl hs hTw hlen
      gi_wp2_with (gi_at_call 57; refine (callsIn_wide.2 (HTZ.out _ HT.out)).mono ?_; rintro e w' ⟨rfl, rfl⟩)
      refine hR.mono ?_
      rintro e W3 (⟨rfl, hJ3, hk3⟩ | ⟨rfl, hJx3⟩)
      · have hT3 : TabAt 0 Lib.deBruijn64tab W3 := fun j hj => (hk3.cell (p := ⟨0, j, none⟩) h0n).trans (HT.out j hj)
        have HT3 := Lib.hid hT3
        clear hT3
        gi_wp2
        go_roundw
        case rel => exact ⟨pre ++ [k], y2, u64_eq' HAnd.out, hy2, by rw [HL.out, HS.out]; simp, hJ3, HT3.out⟩
        case measure =>
          have hd := HDec.out
          rw [HAnd.out]
          simp [intOf]
          omega
      · gi_wp2
        refine bodyPost_ret (results_none rfl _ _ _) rfl ?_
        exact ⟨⟨_, rfl⟩, .inr ⟨pre ++ [k], ⟨listN y2, by rw [HL.out, HS.out]; simp⟩, hJx3⟩⟩

theorem each_stops (n : Nat) (hn : 1 ≤ n) (Bx n₀ x : Nat) (hx : x < 2 ^ 64) (w : World) (hBx : Bx < w.heap.size) (hn₀ : n₀ ≤ w.heap.size) (h0n : 0 < n₀) (hc : w.cell? ⟨Bx, 0, none⟩ = some (.int .u64 x)) (hT : TabAt 0 Lib.deBruijn64tab w) :
    SeqStopsK Fence.wide n Tryd.prog 56 #[.pointer (some ⟨Bx, 0, none⟩)] (fun k : Nat => #[Value.int .i64 k]) (Below n₀) (fun ys => ys = listN x) (fun pre => pre <+: listN x) 64 w := fun l J Jx W hW _ _ hY h0 =>
  each1_in Fence.wide n trivial trivial rfl rfl hn l Bx n₀ x hx J Jx hY W ((hW.cell (p := ⟨Bx, 0, none⟩) hBx).trans hc) (fun j hj => (hW.cell (p := ⟨0, j, none⟩) (show 0 < w.heap.size by omega)).trans (hT j hj)) h0n h0

theorem i64info : (Tryd.prog.info? 3).map (fun i => (i.zero, i.size, i.bytes)) = some (some (.int .i64 0), 1, 8) := by kernel_rfl
set_option maxRecDepth 100000 in
set_option maxHeartbeats 2000000 in
theorem appendSeq_any (x Bx : Nat) (hx : x < 2 ^ 64) (w : World) (hT : TabAt 0 Lib.deBruijn64tab w) (h0 : 0 < w.heap.size) (hBx : Bx < w.heap.size) (hcx : w.cell? ⟨Bx, 0, none⟩ = some (.int .u64 (x : Int))) :
    Calls Tryd.prog 55 #[.slice none 0 0, .func (.func 56) #[] #[.pointer (some ⟨Bx, 0, none⟩)]] w (IntsEnd (listN x) w) := by
  have h1 : 1 ≤ 5 := by omega
  obtain ⟨i0, hi, hz0, hz1, hz2⟩ := info_parts i64info
  refine (callsIn_wide (n := 5)).1 ?_
  refine callsIn_of_wp_marks Tryd.func55 rfl trivial ?_ rfl
  simp only [Tryd.ntmps55, List.size_toArray, List.length_cons, List.length_nil, Nat.reduceAdd, Nat.reduceSub, Array.replicate_succ, Array.replicate_zero, List.push_toArray, List.append_toArray, List.nil_append, List.cons_append]
  gi_wp2
  have bO := Boxed.new w 41 (.slice none 0 0)
  have hB0 : Below w.heap.size w (w.alloc (.cells #[.slice none 0 0] 41)) := (Below.refl _ w).alloc (Nat.le_refl _) _
  have hT0 : TabAt 0 Lib.deBruijn64tab (w.alloc (.cells #[.slice none 0 0] 41)) := fun j hj => (hB0.cell (p := ⟨0, j, none⟩) h0).trans (hT j hj)
  have hc0 : (w.alloc (.cells #[.slice none 0 0] 41)).cell? ⟨Bx, 0, none⟩ = some (.int .u64 (x : Int)) := (hB0.cell (p := ⟨Bx, 0, none⟩) hBx).trans hcx
  refine wpIn_rangeFunc_ownG rfl h1 (gf := 56) (lb := #[.pointer (some ⟨Bx, 0, none⟩)]) rfl trivial (enters_of Tryd.func56 (by kernel_rfl) rfl)
    (each_stops 4 (by omega) Bx w.heap.size x hx _ (by simp; omega) (by simp) h0 hc0 hT0) belowK_t (belowK_b (by simp)) (Below.refl _ _) (fun _ => rfl)
    (fun (pre : List Nat) W => (∃ v, Boxed W w.heap.size 41 v ∧ W.ownsRow w.heap.size 3 1 v pre.length (pre.map i64V) ∧ True) ∧ Below w.heap.size w W)
    (fun _ _ _ => False)
    (OwnFrom.and (Own.from (holdsRow_own w.heap.size w.heap.size 41 3 1 (fun (pre : List Nat) => pre.length) (fun (pre : List Nat) => pre.map i64V) (fun pre v => True)) _) (ownFrom_below (Nat.le_refl _) (by simp)))
    (fun _ _ _ _ _ hs _ _ => hs)
    ⟨⟨_, bO, World.ownsRow_nil _ _ _ _, trivial⟩, hB0⟩
    (fun (k : Nat) => { tmps := #[.slice none 0 0, .func (.func 56) #[] #[.pointer (some ⟨Bx, 0, none⟩)], .pointer (some ⟨w.heap.size, 0, none⟩), undef, .slice none 0 0, .int .i64 k, .func (.func 56) #[] #[.pointer (some ⟨Bx, 0, none⟩)], .int .i64 k, undef, undef, undef, undef, undef], defers := [] }) ?assign ?body ?done ?stop
  case assign =>
    intro l k W K hK
    gi_wp2
    exact hK
  case body =>
    rintro l pre k W ⟨⟨v, hv, hrow, _⟩, hB⟩ hlt
    have hc := hv.cell
    gi_wp2_with (gi_at_builtin; refine wpListIn_append_own _ rfl _ _ 41 rfl w.heap.size 3 i0 (.int .i64 0) 1 8 Tryd.underlying41 hi hz0 hz1 hz2 rfl (by decide) _ _ _ rfl (hrow.alloc _) ⟨W.heap.size, 0, none⟩ 1 1 [.int .i64 k] rfl rfl (cell_one_new _ _ _) (by simp [Value.oneCell']) (by unfold maxLen; omega) (by omega) (by have := hB.size; simp; omega) ?_; intro v' w1 hown' hgrow _; obtain ⟨g', cap', rfl⟩ := ownsRow_succ hown'; obtain ⟨hv1, hv2, hr2, hk2, hb2⟩ := hv.appended (by decide) hrow hB.size (Nat.le_refl _) hown' hgrow; have hc1 := hv1.cell; have hf1 := hv1.frozen)
    exact ⟨hk2.from _, hb2, ⟨_, hv2, by simpa [i64V] using hr2, trivial⟩, hB.trans hb2⟩
  case done =>
    rintro D ys W hD rfl ⟨⟨v, hv, hrow, _⟩, hB⟩ hK
    have hc := hv.cell
    obtain ⟨A', c', rfl, hle⟩ : ∃ A' c', v = .slice A' (listN x).length c' ∧ (listN x).length ≤ c' := by
      rcases hrow.2 with ⟨rfl, h⟩ | ⟨g, cap, cur, rfl, _, _, h1, _⟩
      · exact ⟨none, 0, by rw [h], by omega⟩
      · exact ⟨_, cap, rfl, h1⟩
    gi_wp2
    refine ⟨by simp, .inl ⟨_, _, rfl, run_takeDeferred hK, ?_⟩⟩
    exact ⟨_, results_tmp rfl _ _ _, A', c', rfl, hle, (Row.of_own (ownsRow_putObj hrow _ hK rfl)).reads, hB.trans (belowK_b (w := w) (Nat.le_refl _) W D _ _ (by simp at hD; omega) hK rfl rfl)⟩
  case stop =>
    rintro D c pre W _ _ h _
    exact h.elim

theorem collect_any (x Bx : Nat) (hx : x < 2 ^ 64) (w : World) (hT : TabAt 0 Lib.deBruijn64tab w) (h0 : 0 < w.heap.size) (hBx : Bx < w.heap.size) (hcx : w.cell? ⟨Bx, 0, none⟩ = some (.int .u64 (x : Int))) :
    Calls Tryd.prog 45 #[.func (.func 56) #[] #[.pointer (some ⟨Bx, 0, none⟩)]] w (IntsEnd (listN x) w) := by
  have HA := Lib.hid (appendSeq_any x Bx hx w hT h0 hBx hcx)
  clear hT hcx
  go_enter Tryd.func45, Tryd.ntmps45
  go_wp2_with (go_at_call 55; refine HA.out.mono ?_; rintro e w1 ⟨A, c, rfl, h1, h2, h3⟩; have R1 := Lib.hid (And.intro h2 h3); clear h2 h3)
  go_ret
  exact ⟨A, c, rfl, h1, R1.out.1, R1.out.2⟩

theorem laList_any (x : Nat) (w : World) (ht : Base3 w) (hx : x < 2 ^ 64) :
    Calls Tryd.prog 27 #[.int .u64 x] w (IntsEnd (listN x) w) := by
  have hB0 : Below w.heap.size w (w.alloc (.cells #[.int .u64 (x : Int)] 25)) := (Below.refl _ w).alloc (Nat.le_refl _) _
  have hT1 := ht.below hB0
  have bN := Boxed.new w 25 (.int .u64 (x : Int))
  have HC := Lib.hid (collect_any x w.heap.size hx _ hT1.2 hT1.1 (by simp) bN.cell)
  have HB := Lib.hid hB0
  have HE := Lib.hid (fun w1 => each_any x w1)
  clear hT1 bN hB0 ht
  go_enter Tryd.func27, Tryd.ntmps27
  go_wp2_with (first
    | (go_at_call 46; refine (HE.out _).mono ?_; rintro e w' ⟨rfl, rfl⟩)
    | (go_at_call 45; refine HC.out.mono ?_; rintro e w1 ⟨A, c, rfl, h1, h2, h3⟩; have R1 := Lib.hid (And.intro h2 (below_step HB.out h3)); clear h2 h3))
  go_ret
  exact ⟨A, c, rfl, h1, R1.out.1, R1.out.2⟩

end Go.Proofs.YtilbjanjmmpkkaaDoor
