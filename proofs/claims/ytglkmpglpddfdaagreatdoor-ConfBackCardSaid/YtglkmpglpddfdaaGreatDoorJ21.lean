import Derived.Test.YtglkmpglpddfdaaGreatDoorJ07
import Derived.RangeFuncNested
import Derived.RangeFuncBound
import Derived.RangeFuncCalls
import Derived.RangeFuncLeaves
import Derived.RangeFuncBox
import Derived.Shelf.Abstract
import Derived.Shelf.RegionOpen
import Derived.OwnWalkIn
import Derived.TacticsInMore
import Derived.LoopNIn
import Derived.LoopIn
import Derived.Maps.AppendAt
import Derived.Lib.TrailingZeros
import Derived.Shelf.Spec.TrailingZeros
import Derived.Test.YtglkmpglpddfdaaGreatDoorJ20
import Derived.Deep.RegionHeld3
import Derived.Test.YtglkmpglpddfdaaGreatDoorJ11
/- Of a claim's texts, joined: Lakb Lakn Lakd. No statement but in the last. -/
section
namespace Go.Proofs.YtglkmpglpddfdaaGreatDoor
open Go.RowKit Go.Shelf
set_option linter.unusedVariables false
attribute [local go_sem] Oper.semAt_some

/-! The lowest bit. -/
theorem range_split (q n : Nat) (hq : q < n) : List.range n = List.range q ++ (q :: List.range' (q + 1) (n - q - 1)) := by
  rw [List.range_eq_range', List.range_eq_range']
  have e1 : q :: List.range' (q + 1) (n - q - 1) = List.range' q (n - q) := by
    obtain ⟨m, hm⟩ : ∃ m, n - q = m + 1 := ⟨n - q - 1, by omega⟩
    rw [hm, List.range'_succ]
    rfl
  rw [e1]
  have := List.range'_append_1 (s := 0) (m := q) (n := n - q)
  rw [Nat.zero_add] at this
  rw [this]
  congr 1
  omega
theorem listN_zero : listN 0 = [] := by simp [listN]
theorem and_pred (k m : Nat) : (2 ^ k * (2 * m + 1)) &&& (2 ^ k * (2 * m + 1) - 1) = 2 ^ k * (2 * m) := by
  have hp := Nat.pow_pos (n := k) (show 0 < 2 by omega)
  have e1 : 2 ^ k * (2 * m + 1) - 1 = 2 ^ k * (2 * m) + (2 ^ k - 1) := by rw [Nat.mul_add, Nat.mul_one]; omega
  have e0 : 2 ^ k * (2 * m + 1) = 2 ^ k * (2 * m + 1) + 0 := by omega
  have e2 : 2 ^ k * (2 * m) = 2 ^ k * (2 * m) + 0 := by omega
  apply Nat.eq_of_testBit_eq
  intro i
  rw [Nat.testBit_and, e1, Nat.testBit_two_pow_mul_add _ (by omega)]
  conv => lhs; lhs; rw [e0, Nat.testBit_two_pow_mul_add _ hp]
  conv => rhs; rw [e2, Nat.testBit_two_pow_mul_add _ hp]
  by_cases hi : i < k
  · simp [hi]
  · rw [if_neg hi, if_neg hi, if_neg hi]
    by_cases hk : i - k = 0
    · rw [hk, Nat.testBit_zero, Nat.testBit_zero]
      simp
    · obtain ⟨j, hj⟩ : ∃ j, i - k = j + 1 := ⟨i - k - 1, by omega⟩
      rw [hj, Nat.testBit_succ, Nat.testBit_succ, show (2 * m + 1) / 2 = 2 * m / 2 by omega, Bool.and_self]
theorem listN_step (x : Nat) (h0 : x ≠ 0) (hx : x < 2 ^ 64) : listN x = Lib.ctz 64 x :: listN (x &&& (x - 1)) ∧ Lib.ctz 64 x < 64 ∧ x &&& (x - 1) < 2 ^ 64 := by
  obtain ⟨m, hm, hk⟩ := Lib.ctzFrom_spec 64 x (by omega) hx
  have hc : Lib.ctz 64 x = Lib.ctzFrom 64 x := by unfold Lib.ctz; rw [if_neg h0]
  rw [hc]
  generalize Lib.ctzFrom 64 x = k at hm hk
  have hp := Nat.pow_pos (n := k) (show 0 < 2 by omega)
  have he : x &&& (x - 1) = 2 ^ k * (2 * m) := by rw [hm]; exact and_pred k m
  have hbx : ∀ i, x.testBit i = if i < k then false else (2 * m + 1).testBit (i - k) := fun i => by
    have := Nat.testBit_two_pow_mul_add (2 * m + 1) hp i
    rw [Nat.add_zero, ← hm] at this
    rw [this]
    simp
  have hby : ∀ i, (2 ^ k * (2 * m)).testBit i = if i < k then false else (2 * m).testBit (i - k) := fun i => by
    have := Nat.testBit_two_pow_mul_add (2 * m) hp i
    rw [Nat.add_zero] at this
    rw [this]
    simp
  refine ⟨?_, hk, by rw [he]; have : 2 ^ k * (2 * m + 1) = 2 ^ k * (2 * m) + 2 ^ k := by rw [Nat.mul_add, Nat.mul_one]
                     omega⟩
  rw [he]
  unfold listN
  rw [range_split k 64 hk, List.filter_append, List.filter_append]
  have f1 : (List.range k).filter (fun i => x.testBit i) = [] := by
    rw [List.filter_eq_nil_iff]
    intro i hi
    rw [hbx i, if_pos (by simpa using hi)]
    simp
  have f2 : (List.range k).filter (fun i => (2 ^ k * (2 * m)).testBit i) = [] := by
    rw [List.filter_eq_nil_iff]
    intro i hi
    rw [hby i, if_pos (by simpa using hi)]
    simp
  rw [f1, f2, List.filter_cons, List.filter_cons]
  have g1 : x.testBit k = true := by rw [hbx k, if_neg (by omega), Nat.sub_self, Nat.testBit_zero]; simp
  have g2 : (2 ^ k * (2 * m)).testBit k = false := by rw [hby k, if_neg (by omega), Nat.sub_self, Nat.testBit_zero]; simp
  rw [g1, g2]
  simp only [if_true, List.nil_append]
  congr 1
  apply List.filter_congr
  intro i hi
  have hlt := (List.mem_range'_1.1 hi).1
  rw [hbx i, hby i, if_neg (by omega), if_neg (by omega)]
  obtain ⟨j, hj⟩ : ∃ j, i - k = j + 1 := ⟨i - k - 1, by omega⟩
  rw [hj, Nat.testBit_succ, Nat.testBit_succ, show (2 * m + 1) / 2 = 2 * m / 2 by omega]

/-! bits.TrailingZeros64 -/
set_option maxHeartbeats 1000000 in
theorem tz_core (x k idx : Nat) (w : World) (hx0 : ((x : Int) == 0) = false)
    (key : IntKind.u64.wrap (bits BinOp.and IntKind.u64 (x : Int) (IntKind.u64.wrap (-(x : Int))) * 285870213051353865) / 288230376151711744 = (idx : Int))
    (hi : idx < 64) (hk : k < 64) (hcell : w.cell? ⟨3, idx, none⟩ = some (.int .u8 k)) :
    Calls Tryz.prog 125 #[.int .u64 x] w fun e w' => e = .returned (.int .i64 k) ∧ w = w' := by
  go_enter Tryz.func125, Tryz.ntmps125
  go_wp2_with (simp only [key])
  go_ret
  exact ⟨rfl, rfl⟩
theorem tz_any (x : Nat) (hx : x < 2 ^ 64) (h0 : x ≠ 0) (w : World) (hT : TabAt 3 Lib.deBruijn64tab w) :
    Calls Tryz.prog 125 #[.int .u64 x] w fun e w' => e = .returned (.int .i64 (Lib.ctz 64 x)) ∧ w = w' := by
  obtain ⟨hlow, hk⟩ := Lib.lowest_bit 64 x h0 hx
  obtain ⟨hi, htab⟩ := Lib.deBruijn64_at _ hk
  have hcell := hT _ hi
  rw [htab] at hcell
  exact tz_core x _ _ w (by simp; omega) (tz64_key x _ hx h0 hlow) hi hk hcell

/-! The iterator. -/
theorem each_any (x : Nat) (w : World) : Calls Tryz.prog 105 #[.int .u64 x] w fun e w' => e = .returned (.func (.func 124) #[] #[.pointer (some ⟨w.heap.size, 0, none⟩)]) ∧ w.alloc (.cells #[.int .u64 x] 37) = w' := by
  go_enter Tryz.func105, Tryz.ntmps105
  go_wp2
  go_ret
  exact ⟨rfl, rfl⟩

set_option maxRecDepth 100000 in
set_option maxHeartbeats 1000000 in
theorem each1_in (F : Fence) (n : Nat) (hF : F.fn 124) (hT52 : F.fn 125) (hro : F.round = none) (hw : F = Fence.wide) (hn : 1 ≤ n) (l Bx n₀ x : Nat) (hx : x < 2 ^ 64) (J Jx : List Nat → World → Prop)
    (hY : ∀ (pre : List Nat) (k : Nat) (W : World), J pre W → pre.length < 64 → YieldAt F (n - 1) Tryz.prog l #[.int .i64 k] W fun e W' =>
      (e = .returned (.bool true) ∧ J (pre ++ [k]) W' ∧ Below n₀ W W') ∨ (e = .returned (.bool false) ∧ Jx (pre ++ [k]) W'))
    (W : World) (hBx : W.cell? ⟨Bx, 0, none⟩ = some (.int .u64 x)) (hTab : TabAt 3 Lib.deBruijn64tab W) (h0n : 3 < n₀) (h0 : J [] W) :
    CallsIn F n Tryz.prog 124 #[.func (.yield l) #[] #[], .pointer (some ⟨Bx, 0, none⟩)] W fun e W' => (∃ v, e = .returned v) ∧
      ((∃ ys, ys = listN x ∧ J ys W') ∨ (∃ pre, pre <+: listN x ∧ Jx pre W')) := by
  refine callsIn_of_wp Tryz.func124 rfl hF ?_ hro
  simp only [Tryz.ntmps124, List.size_toArray, List.length_cons, List.length_nil, Nat.reduceAdd, Nat.reduceSub, Array.replicate_succ, Array.replicate_zero, List.push_toArray, List.append_toArray, List.nil_append, List.cons_append]
  subst hw
  gi_wp2
  gi_loopw [3] (fun v wr => ∃ (pre : List Nat) (y : Nat), v = .int .u64 y ∧ y < 2 ^ 64 ∧ listN x = pre ++ listN y ∧ J pre wr ∧ TabAt 3 Lib.deBruijn64tab wr) (fun v _ => (intOf v).toNat)
  case atStart => exact ⟨[], x, rfl, hx, rfl, h0, hTab⟩
  case round =>
    obtain ⟨pre, y, rfl, hy64, hl, hJ, hTw⟩ := hrel
    by_cases hy0 : y = 0
    · have HL := Lib.hid hl
      subst hy0
      clear hl
      gi_wp2
      go_end0
      exact ⟨⟨_, rfl⟩, .inl ⟨pre, by rw [HL.out, listN_zero, List.append_nil], hJ⟩⟩
    · obtain ⟨hs, hk, hy2⟩ := listN_step y hy0 hy64
      have hlen : pre.length < 64 := by
        have h1 : (listN x).length ≤ 64 := by
          unfold listN
          have := List.length_filter_le (fun k => x.testBit k) (List.range 64)
          simpa using this
        rw [hl, hs] at h1
        simp at h1
        omega
      have HTZ := Lib.hid (fun w1 (h : TabAt 3 Lib.deBruijn64tab w1) => tz_any y hy64 hy0 w1 h)
      have HL := Lib.hid hl
      have HS := Lib.hid hs
      have HT := Lib.hid hTw
      have hyn : ((y : Int) != 0) = true := by simp; omega
      have HDec : Hid (y &&& (y - 1) < y) := Lib.hid (by
        have : y &&& (y - 1) ≤ y - 1 := Nat.and_le_right
        omega)
      have HAnd : Hid (bits .and .u64 (y : Int) ((y : Int) - 1) = ((y &&& (y - 1) : Nat) : Int)) := Lib.hid (by
        have := u64_and_nat y (y - 1) (by omega) (by omega)
        rw [← this]
        congr 1
        omega)
      generalize Lib.ctz 64 y = k at HTZ HS hk
      generalize y &&& (y - 1) = y2 at HS HDec HAnd hy2
      obtain ⟨fn, tmps, assign, body, hyy, hR⟩ := hY pre k wr hJ hlen
      clear hl hs hTw hlen
      gi_wp2_with (gi_at_call 125; refine (callsIn_wide.2 (HTZ.out _ HT.out)).mono ?_; rintro e w' ⟨rfl, rfl⟩)
      refine hR.mono ?_
      rintro e W3 (⟨rfl, hJ3, hk3⟩ | ⟨rfl, hJx3⟩)
      · have hT3 : TabAt 3 Lib.deBruijn64tab W3 := fun j hj => (hk3.cell (p := ⟨3, j, none⟩) h0n).trans (HT.out j hj)
        have HT3 := Lib.hid hT3
        clear hT3
        gi_wp2
        go_roundw
        case rel => exact ⟨pre ++ [k], y2, u64_eq' HAnd.out, hy2, by rw [HL.out, HS.out]; simp, hJ3, HT3.out⟩
        case measure =>
          have hd := HDec.out
          rw [HAnd.out]
          simp [intOf]
          omega
      · gi_wp2
        refine bodyPost_ret (results_none rfl _ _ _) rfl ?_
        exact ⟨⟨_, rfl⟩, .inr ⟨pre ++ [k], ⟨listN y2, by rw [HL.out, HS.out]; simp⟩, hJx3⟩⟩

theorem each_stops (n : Nat) (hn : 1 ≤ n) (Bx n₀ x : Nat) (hx : x < 2 ^ 64) (w : World) (hBx : Bx < w.heap.size) (hn₀ : n₀ ≤ w.heap.size) (h0n : 3 < n₀) (hc : w.cell? ⟨Bx, 0, none⟩ = some (.int .u64 x)) (hT : TabAt 3 Lib.deBruijn64tab w) :
    SeqStopsK Fence.wide n Tryz.prog 124 #[.pointer (some ⟨Bx, 0, none⟩)] (fun k : Nat => #[Value.int .i64 k]) (Below n₀) (fun ys => ys = listN x) (fun pre => pre <+: listN x) 64 w := fun l J Jx W hW _ _ hY h0 =>
  each1_in Fence.wide n trivial trivial rfl rfl hn l Bx n₀ x hx J Jx hY W ((hW.cell (p := ⟨Bx, 0, none⟩) hBx).trans hc) (fun j hj => (hW.cell (p := ⟨3, j, none⟩) (show 3 < w.heap.size by omega)).trans (hT j hj)) h0n h0

end Go.Proofs.YtglkmpglpddfdaaGreatDoor
end

section
namespace Go.Proofs.YtglkmpglpddfdaaGreatDoor
open Go.RowKit Go.Shelf
set_option linter.unusedVariables false
attribute [local go_sem] Oper.semAt_some

def nearP (B : Nat) (S : Int → Nat) (c : Nat) : Bool := B.testBit c && (B &&& (18446744073709551615 - S c) == 0)
def fitP (B : Nat) (S : Int → Nat) (c : Nat) : Bool := B &&& (18446744073709551615 - S c) == 0
def goodEnd (y : Nat) (S : Int → Nat) (pre : List Nat) : Prop := (∀ c ∈ pre.dropLast, fitP y S c = false) ∧ fitP y S (pre.getLastD 0) = true ∧ pre ≠ []
theorem fit_is (y : Nat) (S : Int → Nat) (c : Nat) (hy : y < 2 ^ 64) (hS : S c < 2 ^ 64) : (bits .andNot .u64 (y : Int) ((S (c : Int) : Nat) : Int) == 0) = fitP y S c := by
  rw [u64_andNot_nat y (S c) hy hS, Bool.eq_iff_iff]
  unfold fitP
  simp
theorem listN_mem (y k : Nat) : k ∈ listN y ↔ k < 64 ∧ y.testBit k = true := by simp [listN]
theorem near_none (y : Nat) (S : Int → Nat) (h : ∀ c ∈ listN y, fitP y S c = false) : firstN (nearP y S) 64 = -1 := firstN_none fun j hj => by
  unfold nearP
  cases hb : y.testBit j
  · rfl
  · exact h j ((listN_mem y j).2 ⟨hj, hb⟩)
theorem near_first (y : Nat) (S : Int → Nat) (pre : List Nat) (hpre : pre <+: listN y) (hg : goodEnd y S pre) : firstN (nearP y S) 64 = ((pre.getLastD 0 : Nat) : Int) := by
  obtain ⟨h1, h2, h3⟩ := hg
  obtain ⟨pre', k, rfl⟩ : ∃ pre' k, pre = pre' ++ [k] := ⟨pre.dropLast, pre.getLast h3, (List.dropLast_concat_getLast h3).symm⟩
  rw [List.getLastD_concat] at h2 ⊢
  rw [List.dropLast_concat] at h1
  obtain ⟨rest, hr⟩ := hpre
  have hk := (listN_mem y k).1 (by rw [← hr]; simp)
  refine firstN_some hk.1 ?_ fun j hj => ?_
  · show (y.testBit k && fitP y S k) = true
    rw [hk.2, h2]
    rfl
  · show (y.testBit j && fitP y S j) = false
    cases hb : y.testBit j
    · rfl
    · have hm := (listN_mem y j).2 ⟨by omega, hb⟩
      have hs : (listN y).Pairwise (· < ·) := List.Pairwise.filter _ List.pairwise_lt_range
      rw [← hr] at hm hs
      rw [List.append_assoc] at hm hs
      rcases List.mem_append.1 hm with hm | hm
      · simp [h1 j hm]
      · exfalso
        have hs2 := (List.pairwise_append.1 hs).2.1
        rcases List.mem_append.1 hm with hm | hm
        · simp at hm; omega
        · have := (List.pairwise_cons.1 hs2).1 j hm
          omega
theorem keepsFrom_below {B : Nat} {W W' : World} (h : Below W.heap.size W W') : KeepsFrom B W W' :=
  KeepsFrom.of_grownBy (row := none) ⟨h.os, h.tape, h.output, h.size, fun k hk _ => h.block k hk⟩ (fun j e => by cases e)
theorem boxed_below {W W' : World} {B : Nat} {t : TypeId} {v : Value} (h : Boxed W B t v) (hb : Below W.heap.size W W') : Boxed W' B t v := (hb.block B h.lt).trans h

theorem cell_set_ne {w : World} {B g : Nat} (h : B ≠ g) (v : Value) : (w.setCell ⟨g, 0, none⟩ v).cell? ⟨B, 0, none⟩ = w.cell? ⟨B, 0, none⟩ := by
  have := Below.heap_setCell w ⟨g, 0, none⟩ v B h
  simp [World.cell?, this]
theorem boxed_drew {W : World} {B : Nat} {t : TypeId} {v : Value} (h : Boxed W B t v) : Boxed W.drew B t v := h
set_option maxRecDepth 100000 in
set_option maxHeartbeats 4000000 in
theorem nearJ_any (S : Int → Nat) (hS64 : ∀ c, S c < 2 ^ 64) (Bu : Nat) (a b : Int) (w : World) (ht : Base3 w)
    (hS : ∀ (c : Int) (w1 : World), Below w.heap.size w w1 → Calls Tryz.prog 127 #[.int .i64 c, .pointer (some ⟨Bu, 0, none⟩)] w1 (U64End (S c) w1)) :
    Calls Tryz.prog 126 #[.int .i64 a, .int .i64 b, .func (.func 127) #[] #[.pointer (some ⟨Bu, 0, none⟩)]] w (IntEnd (firstN (nearP (S a &&& S b) S) 64) w) := by
  have h1 : 1 ≤ 6 := by omega
  have HS := Lib.hid hS
  have HT := Lib.hid ht
  have hxa := hS64 a
  have hxb := hS64 b
  have HAB := Lib.hid (u64_and_nat (S a) (S b) hxa hxb)
  have HA := Lib.hid (fun w1 h => HS.out a w1 h)
  have HB := Lib.hid (fun w1 h => HS.out b w1 h)
  have hand : S a &&& S b < 2 ^ 64 := Nat.lt_of_le_of_lt Nat.and_le_left hxa
  generalize S a &&& S b = y at hand HAB ⊢
  generalize S a = xa at HA HAB
  generalize S b = xb at HB HAB
  clear hxa hxb hS ht
  refine (callsIn_wide (n := 6)).1 ?_
  refine callsIn_of_wp_marks Tryz.func126 rfl trivial ?_ rfl
  simp only [Tryz.ntmps126, List.size_toArray, List.length_cons, List.length_nil, Nat.reduceAdd, Nat.reduceSub, Array.replicate_succ, Array.replicate_zero, List.push_toArray, List.append_toArray, List.nil_append, List.cons_append]
  gi_wp2
  rename_i K hK
  have bR := Boxed.new (w.alloc (.cells #[.func (.func 127) #[] #[.pointer (some ⟨Bu, 0, none⟩)]] 99)) 3 (.int .i64 0)
  have bS := (Boxed.new w 99 (.func (.func 127) #[] #[.pointer (some ⟨Bu, 0, none⟩)])).alloc (.cells #[.int .i64 0] 3)
  have hB0 : Below w.heap.size w ((w.alloc (.cells #[.func (.func 127) #[] #[.pointer (some ⟨Bu, 0, none⟩)]] 99)).alloc (.cells #[.int .i64 0] 3)) := ((Below.refl _ w).alloc (Nat.le_refl _) _).alloc (by simp) _
  have hsz : ((w.alloc (.cells #[.func (.func 127) #[] #[.pointer (some ⟨Bu, 0, none⟩)]] 99)).alloc (.cells #[.int .i64 0] 3)).heap.size = w.heap.size + 2 := by simp
  simp only [World.size_alloc] at bR
  obtain ⟨W0, hW0⟩ : ∃ W0, (w.alloc (.cells #[.func (.func 127) #[] #[.pointer (some ⟨Bu, 0, none⟩)]] 99)).alloc (.cells #[.int .i64 0] 3) = W0 := ⟨_, rfl⟩
  rw [hW0] at bR bS hB0 hsz ⊢
  clear hW0
  have HSZ := Lib.hid hsz
  clear hsz
  have BD : Below W0.heap.size W0 W0.drew := (Below.refl _ _).drew
  have HA0 := Lib.hid (fun w1 h => HA.out w1 (below_step hB0 h))
  have HB0 := Lib.hid (fun w1 h => HB.out w1 (below_step hB0 h))
  have HC := Lib.hid (fun W (h : Below W0.heap.size W0 W) => (boxed_below bS h).cell)
  have HZ := Lib.hid (fun W (h : Below W0.heap.size W0 W) => show w.heap.size + 2 ≤ W.heap.size from by have := h.size; have := HSZ.out; omega)
  have hcS := HC.out _ BD
  have hz0 := HZ.out _ BD
  have hz1 := HZ.out _ (Below.refl _ W0)
  clear HA HB
  have hcT : (W0.alloc (Obj.cells #[Value.int IntKind.u64 0] 37)).drew.cell? ⟨w.heap.size, 0, none⟩ = some (.func (.func 127) #[] #[.pointer (some ⟨Bu, 0, none⟩)]) := HC.out _ (by (repeat (first | exact BD | exact Below.refl _ _ | refine below_step ?_ (by assumption) | refine below_alloc' ?_ _ | refine Below.drew ?_)))
  refine wpIn_wide.2 ?_
  obtain ⟨M, hM⟩ : ∃ M : Act → World → Prop, M = fun act W => ∃ Bb, w.heap.size + 2 ≤ Bb ∧ Boxed W Bb 37 (.int .u64 (y : Int)) ∧ Below W0.heap.size W0 W ∧
    act = { tmps := #[.int .i64 a, .int .i64 b, .func (.func 127) #[] #[.pointer (some ⟨Bu, 0, none⟩)], undef, undef, .pointer (some ⟨w.heap.size, 0, none⟩), .pointer (some ⟨w.heap.size + 1, 0, none⟩), .pointer (some ⟨Bb, 0, none⟩), undef, .func (.func 127) #[] #[.pointer (some ⟨Bu, 0, none⟩)], .int .i64 a, .int .u64 (xa : Int), .func (.func 127) #[] #[.pointer (some ⟨Bu, 0, none⟩)], .int .i64 b, .int .u64 (xb : Int), .int .u64 (y : Int), undef, undef, undef, undef, undef, undef, undef, undef, undef, undef], defers := [] } := ⟨_, rfl⟩
  refine wp_cut M ?_ ?_
  · go_region_held3 (fun w' => w'.cell? ⟨w.heap.size, 0, none⟩ = some (.func (.func 127) #[] #[.pointer (some ⟨Bu, 0, none⟩)])) (first | go_keep | exact hcS | assumption | exact (cell_set_ne (by omega) _).trans hcS | (refine HC.out _ ?_; (repeat (first | exact BD | exact Below.refl _ _ | refine below_step ?_ (by assumption) | refine below_alloc' ?_ _ | refine Below.drew ?_)))) (first
      | (go_at_call 127; (with_reducible refine (HA0.out _ ?_).mono ?_); (repeat (first | exact BD | exact Below.refl _ _ | refine below_step ?_ (by assumption) | refine below_alloc' ?_ _ | refine Below.drew ?_)); rintro e w3 ⟨rfl, b3⟩; have hz := HZ.out w3 (by (repeat (first | exact BD | exact Below.refl _ _ | refine below_step ?_ (by assumption) | refine below_alloc' ?_ _ | refine Below.drew ?_))); have hcS := HC.out w3 (by (repeat (first | exact BD | exact Below.refl _ _ | refine below_step ?_ (by assumption) | refine below_alloc' ?_ _ | refine Below.drew ?_))); (try (have hbx := boxed_below (Boxed.new _ _ _) b3)); (try (have hbx := boxed_below (boxed_drew (Boxed.new _ _ _)) b3)); (try (have hbx := boxed_below hbx b3)); (try (have hbc := hbx.cell)); (try (have hbf := hbx.frozen)))
      | (go_at_call 127; (with_reducible refine (HB0.out _ ?_).mono ?_); (repeat (first | exact BD | exact Below.refl _ _ | refine below_step ?_ (by assumption) | refine below_alloc' ?_ _ | refine Below.drew ?_)); rintro e w4 ⟨rfl, b4⟩; have hz := HZ.out w4 (by (repeat (first | exact BD | exact Below.refl _ _ | refine below_step ?_ (by assumption) | refine below_alloc' ?_ _ | refine Below.drew ?_))); have hcS := HC.out w4 (by (repeat (first | exact BD | exact Below.refl _ _ | refine below_step ?_ (by assumption) | refine below_alloc' ?_ _ | refine Below.drew ?_))); (try (have hbx := boxed_below (Boxed.new _ _ _) b4)); (try (have hbx := boxed_below (boxed_drew (Boxed.new _ _ _)) b4)); (try (have hbx := boxed_below hbx b4)); (try (have hbc := hbx.cell)); (try (have hbf := hbx.frozen))))
    all_goals
      show M _ _
      rw [hM, HAB.out]
      first
        | exact ⟨_, hz, Boxed.new _ _ _, by (repeat (first | exact BD | exact Below.refl _ _ | refine below_step ?_ (by assumption) | refine below_alloc' ?_ _ | refine Below.drew ?_)), rfl⟩
        | exact ⟨_, by omega, hbx.set _, Below.setCell (p := ⟨_, 0, none⟩) (by (repeat (first | exact BD | exact Below.refl _ _ | refine below_step ?_ (by assumption) | refine below_alloc' ?_ _ | refine Below.drew ?_))) (Nat.le_trans (Nat.le_of_eq HSZ.out) (by omega)) _, rfl⟩
  · intro act W hMW
    rw [hM] at hMW
    obtain ⟨Bb, hBb, bB, hBW, rfl⟩ := hMW
    clear hM M hcT
    have hBw := below_step hB0 hBW
    have bS1 := boxed_below bS hBW
    have bR1 := boxed_below bR hBW
    have hcb := bB.cell
    have HE := Lib.hid (fun w1 => each_any y w1)
    clear HA0 HB0 HC HZ hcS hz0 hz1
    refine hK _ _ ?_
    gi_wp2_with (refine ⟨trivial, ?_⟩; gi_at_call 105; refine (callsIn_wide.2 (HE.out _)).mono ?_; rintro e w' ⟨rfl, rfl⟩)
    have bX := Boxed.new W 37 (.int .u64 (y : Int))
    have bS2 := bS1.alloc (.cells #[.int .u64 (y : Int)] 37)
    have bR2 := bR1.alloc (.cells #[.int .u64 (y : Int)] 37)
    have bB2 := bB.alloc (.cells #[.int .u64 (y : Int)] 37)
    have hB2 := below_alloc' hBw (.cells #[.int .u64 (y : Int)] 37)
    have hT2 := HT.out.below hB2
    have hWs : w.heap.size + 2 ≤ W.heap.size := by have := hBW.size; have := HSZ.out; omega
    have h0w := HT.out.1
    obtain ⟨W1, hW1⟩ : ∃ W1, W.alloc (.cells #[.int .u64 (y : Int)] 37) = W1 := ⟨_, rfl⟩
    have hz1 : W1.heap.size = W.heap.size + 1 := by rw [← hW1]; simp
    rw [hW1] at bX bS2 bR2 bB2 hB2 hT2 ⊢
    refine wpIn_rangeFunc_ownG rfl h1 (gf := 124) (lb := #[.pointer (some ⟨W.heap.size, 0, none⟩)]) rfl trivial (enters_of Tryz.func124 (by kernel_rfl) rfl)
      (each_stops 5 (by omega) W.heap.size w.heap.size y hand W1 (by omega) (by omega) h0w bX.cell hT2.2) belowK_t (belowK_b (by omega)) (Below.refl _ _) (fun _ => rfl)
      (fun (pre : List Nat) W' => ((((∀ c ∈ pre, fitP y S c = false) ∧ Boxed W' (w.heap.size + 1) 3 (.int .i64 0)) ∧ Boxed W' w.heap.size 99 (.func (.func 127) #[] #[.pointer (some ⟨Bu, 0, none⟩)])) ∧ Boxed W' Bb 37 (.int .u64 (y : Int))) ∧ Below w.heap.size w W')
      (fun c (pre : List Nat) W' => ((c = .ret ∧ goodEnd y S pre) ∧ Boxed W' (w.heap.size + 1) 3 (.int .i64 ((pre.getLastD 0 : Nat) : Int))) ∧ Below w.heap.size w W')
      (OwnFrom.and (OwnFrom.and (OwnFrom.and (OwnFrom.and (ownFrom_pure _ _) (Own.from (boxed_own _ _ _) _)) (Own.from (boxed_own _ _ _) _)) (Own.from (boxed_own _ _ _) _)) (ownFrom_below (Nat.le_refl _) (by omega)))
      (fun c => OwnFrom.and (OwnFrom.and (ownFrom_pure _ _) (Own.from (boxed_own _ _ _) _)) (ownFrom_below (Nat.le_refl _) (by omega)))
      ⟨⟨⟨⟨fun c hc => (by cases hc), bR2⟩, bS2⟩, bB2⟩, hB2⟩
      (fun (k : Nat) => { tmps := #[.int .i64 a, .int .i64 b, .func (.func 127) #[] #[.pointer (some ⟨Bu, 0, none⟩)], undef, undef, .pointer (some ⟨w.heap.size, 0, none⟩), .pointer (some ⟨w.heap.size + 1, 0, none⟩), .pointer (some ⟨Bb, 0, none⟩), .int .i64 k, .func (.func 127) #[] #[.pointer (some ⟨Bu, 0, none⟩)], .int .i64 a, .int .u64 (xa : Int), .func (.func 127) #[] #[.pointer (some ⟨Bu, 0, none⟩)], .int .i64 b, .int .u64 (xb : Int), .int .u64 (y : Int), .int .u64 (y : Int), .func (.func 124) #[] #[.pointer (some ⟨W.heap.size, 0, none⟩)], .int .i64 k, undef, undef, undef, undef, undef, undef, undef], defers := [] }) ?assign ?body ?done ?stop
    case assign =>
      intro l k W' K' hK'
      gi_wp2
      exact hK'
    case body =>
      rintro l pre k W' ⟨⟨⟨⟨hp, bR3⟩, bS3⟩, bB3⟩, hB3⟩ hlt
      have hmx : Tryz.prog.follows .mixedOrders = true := by kernel_rfl
      have h3 : 1 ≤ 6 - 1 - 1 := by omega
      have BD : Below W'.heap.size W' W'.drew := (Below.refl _ _).drew
      have cS3 : W'.drew.cell? ⟨w.heap.size, 0, none⟩ = some (.func (.func 127) #[] #[.pointer (some ⟨Bu, 0, none⟩)]) := bS3.cell
      have cB3 : W'.drew.cell? ⟨Bb, 0, none⟩ = some (.int .u64 (y : Int)) := bB3.cell
      have HSk := Lib.hid (fun w1 (h : Below W'.heap.size W' w1) => HS.out k w1 (below_step hB3 h))
      have HBx := Lib.hid (fun w1 (h : Below W'.heap.size W' w1) => boxed_below bB3 h)
      have HF := Lib.hid (fit_is y S k hand (hS64 k))
      gi_wp2
      gi_region_with_o (refine ⟨trivial, ?_⟩; gi_at_call 127; refine (CallsIn.inRound l (callsIn_wide.2 (HSk.out _ ?_))).mono ?_; (repeat (first | exact BD | exact Below.refl _ _ | refine below_step ?_ (by assumption) | refine below_alloc' ?_ _ | refine Below.drew ?_)); rintro e w5 ⟨rfl, b5⟩; have B5 := HBx.out w5 (by (repeat (first | exact BD | exact Below.refl _ _ | refine below_step ?_ (by assumption) | refine below_alloc' ?_ _ | refine Below.drew ?_))); have c5 := B5.cell)
      all_goals
        have h5 : Below W'.heap.size W' w5 := by (repeat (first | exact BD | exact Below.refl _ _ | refine below_step ?_ (by assumption) | refine below_alloc' ?_ _ | refine Below.drew ?_))
        have bR5 := boxed_below bR3 h5
        have bS5 := boxed_below bS3 h5
        have bB5 := boxed_below bB3 h5
        have cR5 := bR5.cell
        have fR5 := bR5.frozen
        have hB5 := below_step hB3 h5
        have hf := HF.out
        cases hq : fitP y S k
        · rw [hq] at hf
          gi_wp2
          exact ⟨keepsFrom_below h5, h5.mono hB3.size, ⟨⟨⟨fun c hc => (List.mem_append.1 hc).elim (hp c) (fun e => by simp at e; subst e; exact hq), bR5⟩, bS5⟩, bB5⟩, hB5⟩
        · rw [hq] at hf
          gi_wp2
          exact ⟨(keepsFrom_below h5).trans ((KeepsOthers.setCell _ _ _).from _), ⟨⟨rfl, by rw [List.dropLast_concat]; exact hp, by rw [List.getLastD_concat]; exact hq, by simp⟩, by rw [List.getLastD_concat]; exact bR5.set _⟩, hB5.setCell (p := ⟨w.heap.size + 1, 0, none⟩) (by simp) _⟩
    case done =>
      rintro D ys W' hD rfl ⟨⟨⟨⟨hp, bR3⟩, bS3⟩, bB3⟩, hB3⟩ hK
      have cR := bR3.cell
      have fR := bR3.frozen
      gi_wp2
      have hK' := (KeepsOthers.setCell W' ⟨w.heap.size + 1, 0, none⟩ (.int .i64 (-1))).same D _ hK rfl
      refine ⟨by simp, .inl ⟨_, _, rfl, run_takeDeferred hK', ?_⟩⟩
      have hc5 := cell_kept (bR3.set (.int .i64 (-1))).cell (grownBy_putObj' _ D (.deferred none)) (fun r e => by cases e; exact ⟨_, hK', rfl⟩)
      refine ⟨.int .i64 (-1), ?_, ret_i64 (near_none y S hp).symm, (hB3.setCell (p := ⟨w.heap.size + 1, 0, none⟩) (by simp) _).trans (belowK_b (w := w) (Nat.le_refl _) _ D _ _ (by omega) hK' rfl rfl)⟩
      simp [results, Tryz.f126, go_sem, hc5]
    case stop =>
      rintro D c pre W' hD hpre ⟨⟨⟨rfl, hg⟩, bR3⟩, hB3⟩ hK
      gi_wp2
      refine ⟨by simp, .inl ⟨_, _, rfl, run_takeDeferred hK, ?_⟩⟩
      have hc5 := cell_kept bR3.cell (grownBy_putObj' _ D (.deferred none)) (fun r e => by cases e; exact ⟨_, hK, rfl⟩)
      refine ⟨.int .i64 ((pre.getLastD 0 : Nat) : Int), ?_, ret_i64 (near_first y S pre hpre hg).symm, hB3.trans (belowK_b (w := w) (Nat.le_refl _) W' D _ _ (by omega) hK rfl rfl)⟩
      simp [results, Tryz.f126, go_sem, hc5]

end Go.Proofs.YtglkmpglpddfdaaGreatDoor
end

section
namespace Go.Proofs.YtglkmpglpddfdaaGreatDoor
open Go.RowKit Go.Shelf
set_option linter.unusedVariables false
attribute [local go_sem] Oper.semAt_some

set_option maxRecDepth 100000 in
set_option maxHeartbeats 1000000 in
theorem each1_inR (F : Fence) (n : Nat) (hF : F.fn 124) (hT52 : F.fn 125) (hro : F.round = none) (hw : F = Fence.wide) (hn : 1 ≤ n) (l Bx n₀ x : Nat) (hx : x < 2 ^ 64) (R : Nat → Prop) (hR : ∀ k ∈ listN x, R k) (J Jx : List {k : Nat // R k} → World → Prop)
    (hY : ∀ (pre : List {k : Nat // R k}) (k : {k : Nat // R k}) (W : World), J pre W → pre.length < 64 → YieldAt F (n - 1) Tryz.prog l #[.int .i64 (k.1 : Int)] W fun e W' =>
      (e = .returned (.bool true) ∧ J (pre ++ [k]) W' ∧ Below n₀ W W') ∨ (e = .returned (.bool false) ∧ Jx (pre ++ [k]) W'))
    (W : World) (hBx : W.cell? ⟨Bx, 0, none⟩ = some (.int .u64 x)) (hTab : TabAt 3 Lib.deBruijn64tab W) (h0n : 3 < n₀) (h0 : J [] W) :
    CallsIn F n Tryz.prog 124 #[.func (.yield l) #[] #[], .pointer (some ⟨Bx, 0, none⟩)] W fun e W' => (∃ v, e = .returned v) ∧
      ((∃ ys : List {k : Nat // R k}, ys.map (·.1) = listN x ∧ J ys W') ∨ (∃ pre : List {k : Nat // R k}, pre.map (·.1) <+: listN x ∧ Jx pre W')) := by
  refine callsIn_of_wp Tryz.func124 rfl hF ?_ hro
  simp only [Tryz.ntmps124, List.size_toArray, List.length_cons, List.length_nil, Nat.reduceAdd, Nat.reduceSub, Array.replicate_succ, Array.replicate_zero, List.push_toArray, List.append_toArray, List.nil_append, List.cons_append]
  subst hw
  gi_wp2
  gi_loopw [3] (fun v wr => ∃ (pre : List {k : Nat // R k}) (y : Nat), v = .int .u64 y ∧ y < 2 ^ 64 ∧ listN x = pre.map (·.1) ++ listN y ∧ J pre wr ∧ TabAt 3 Lib.deBruijn64tab wr) (fun v _ => (intOf v).toNat)
  case atStart => exact ⟨[], x, rfl, hx, rfl, h0, hTab⟩
  case round =>
    obtain ⟨pre, y, rfl, hy64, hl, hJ, hTw⟩ := hrel
    by_cases hy0 : y = 0
    · have HL := Lib.hid hl
      subst hy0
      clear hl
      gi_wp2
      go_end0
      exact ⟨⟨_, rfl⟩, .inl ⟨pre, by rw [HL.out, listN_zero, List.append_nil], hJ⟩⟩
    · obtain ⟨hs, hk, hy2⟩ := listN_step y hy0 hy64
      have hlen : pre.length < 64 := by
        have h1 : (listN x).length ≤ 64 := by
          unfold listN
          have := List.length_filter_le (fun k => x.testBit k) (List.range 64)
          simpa using this
        rw [hl, hs] at h1
        simp at h1
        omega
      have hRk : R (Lib.ctz 64 y) := hR _ (by rw [hl, hs]; simp)
      have HTZ := Lib.hid (fun w1 (h : TabAt 3 Lib.deBruijn64tab w1) => tz_any y hy64 hy0 w1 h)
      have HL := Lib.hid hl
      have HS := Lib.hid hs
      have HT := Lib.hid hTw
      have hyn : ((y : Int) != 0) = true := by simp; omega
      have HDec : Hid (y &&& (y - 1) < y) := Lib.hid (by
        have : y &&& (y - 1) ≤ y - 1 := Nat.and_le_right
        omega)
      have HAnd : Hid (bits .and .u64 (y : Int) ((y : Int) - 1) = ((y &&& (y - 1) : Nat) : Int)) := Lib.hid (by
        have := u64_and_nat y (y - 1) (by omega) (by omega)
        rw [← this]
        congr 1
        omega)
      generalize Lib.ctz 64 y = k at HTZ HS hk hRk
      generalize y &&& (y - 1) = y2 at HS HDec HAnd hy2
      have hYk : YieldAt Fence.wide (n - 1) Tryz.prog l #[.int .i64 (k : Int)] wr fun e W' =>
        (e = .returned (.bool true) ∧ J (pre ++ [⟨k, hRk⟩]) W' ∧ Below n₀ wr W') ∨ (e = .returned (.bool false) ∧ Jx (pre ++ [⟨k, hRk⟩]) W') := hY pre ⟨k, hRk⟩ wr hJ hlen
      obtain ⟨fn, tmps, assign, body, hyy, hRR⟩ := hYk
      clear hl hs hTw hlen
      gi_wp2_with (gi_at_call 125; refine (callsIn_wide.2 (HTZ.out _ HT.out)).mono ?_; rintro e w' ⟨rfl, rfl⟩)
      refine hRR.mono ?_
      rintro e W3 (⟨rfl, hJ3, hk3⟩ | ⟨rfl, hJx3⟩)
      · have hT3 : TabAt 3 Lib.deBruijn64tab W3 := fun j hj => (hk3.cell (p := ⟨3, j, none⟩) h0n).trans (HT.out j hj)
        have HT3 := Lib.hid hT3
        clear hT3
        gi_wp2
        go_roundw
        case rel => exact ⟨pre ++ [⟨k, hRk⟩], y2, u64_eq' HAnd.out, hy2, by rw [HL.out, HS.out]; simp, hJ3, HT3.out⟩
        case measure =>
          have hd := HDec.out
          rw [HAnd.out]
          simp [intOf]
          omega
      · gi_wp2
        refine bodyPost_ret (results_none rfl _ _ _) rfl ?_
        exact ⟨⟨_, rfl⟩, .inr ⟨pre ++ [⟨k, hRk⟩], ⟨listN y2, by rw [HL.out, HS.out]; simp⟩, hJx3⟩⟩

theorem each_stopsR (n : Nat) (hn : 1 ≤ n) (Bx n₀ x : Nat) (hx : x < 2 ^ 64) (R : Nat → Prop) (hR : ∀ k ∈ listN x, R k) (w : World) (hBx : Bx < w.heap.size) (hn₀ : n₀ ≤ w.heap.size) (h0n : 3 < n₀) (hc : w.cell? ⟨Bx, 0, none⟩ = some (.int .u64 x)) (hT : TabAt 3 Lib.deBruijn64tab w) :
    SeqStopsK Fence.wide n Tryz.prog 124 #[.pointer (some ⟨Bx, 0, none⟩)] (fun k : {k : Nat // R k} => #[Value.int .i64 (k.1 : Int)]) (Below n₀) (fun ys => ys.map (·.1) = listN x) (fun pre => pre.map (·.1) <+: listN x) 64 w := fun l J Jx W hW _ _ hY h0 =>
  each1_inR Fence.wide n trivial trivial rfl rfl hn l Bx n₀ x hx R hR J Jx hY W ((hW.cell (p := ⟨Bx, 0, none⟩) hBx).trans hc) (fun j hj => (hW.cell (p := ⟨3, j, none⟩) (show 3 < w.heap.size by omega)).trans (hT j hj)) h0n h0

/-! A function that leaves with marks. -/
def marksD (ds : List Nat) : List Deferred := ds.map fun D => { target := .collected D, args := #[] }
def Marks (ds : List Nat) (W : World) : Prop := ds.Nodup ∧ ∀ D ∈ ds, W.heap[D]? = some (.deferred (some []))
theorem Marks.below {ds : List Nat} {W W' : World} (h : Marks ds W) (hb : Below W.heap.size W W') : Marks ds W' :=
  ⟨h.1, fun D hD => (hb.block D (Array.getElem?_eq_some_iff.1 (h.2 D hD)).1).trans (h.2 D hD)⟩
theorem leavesM_marks {F : Fence} {n : Nat} {P : Program} {fn : Func} {tmps : Array Value} {R : Ending → World → Prop} (Z : World → Prop) : ∀ (ds : List Nat) (W : World), Marks ds W → Z W →
    (∀ D ∈ ds, ∀ W, Z W → W.heap[D]? = some (.deferred (some [])) → Z (W.putObj D (.deferred none))) →
    (∀ W, Z W → LeavesIn F n P fn tmps R [] .returning W) → LeavesInM F n P fn tmps R (marksD ds) .returning W := by
  intro ds
  induction ds with
  | nil => exact fun W _ hZ _ he => he W hZ
  | cons D ds ih =>
    intro W hm hZ hs he
    have hD := hm.2 D (by simp)
    refine ⟨by simp, .inl ⟨D, _, rfl, run_takeDeferred hD, ?_⟩⟩
    refine ih _ ⟨(List.nodup_cons.1 hm.1).2, fun D' hD' => ?_⟩ (hs D (by simp) W hZ hD) (fun D' hD' => hs D' (by simp [hD'])) he
    rw [World.putObj_heap_other (by rintro rfl; exact (List.nodup_cons.1 hm.1).1 hD')]
    exact hm.2 D' (by simp [hD'])

end Go.Proofs.YtglkmpglpddfdaaGreatDoor
end
