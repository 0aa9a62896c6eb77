/- Package lattice: nearest, as Join calls it: contract, no statement. -/
import Derived.Test.YtilbjanjmmpkkaaDoorLaka
import Derived.Test.YtilbjanjmmpkkaaDoorLakb
import Derived.Deep.RegionHeld3
namespace Go.Proofs.YtilbjanjmmpkkaaDoor
open Go.RowKit Go.Shelf
set_option linter.unusedVariables false
attribute [local go_sem] Oper.semAt_some

def nearP (B : Nat) (S : Int → Nat) (c : Nat) : Bool := B.testBit c && (B &&& (18446744073709551615 - S c) == 0)
def fitP (B : Nat) (S : Int → Nat) (c : Nat) : Bool := B &&& (18446744073709551615 - S c) == 0
def goodEnd (y : Nat) (S : Int → Nat) (pre : List Nat) : Prop := (∀ c ∈ pre.dropLast, fitP y S c = false) ∧ fitP y S (pre.getLastD 0) = true ∧ pre ≠ []
theorem fit_is (y : Nat) (S : Int → Nat) (c : Nat) (hy : y < 2 ^ 64) (hS : S c < 2 ^ 64) : (bits .andNot .u64 (y : Int) ((S (c : Int) : Nat) : Int) == 0) = fitP y S c := by
  rw [u64_andNot_nat y (S c) hy hS, Bool.eq_iff_iff]
  unfold fitP
  simp
theorem listN_mem (y k : Nat) : k ∈ listN y ↔ k < 64 ∧ y.testBit k = true := by simp [listN]
theorem near_none (y : Nat) (S : Int → Nat) (h : ∀ c ∈ listN y, fitP y S c = false) : firstN (nearP y S) 64 = -1 := firstN_none fun j hj => by
  unfold nearP
  cases hb : y.testBit j
  · rfl
  · exact h j ((listN_mem y j).2 ⟨hj, hb⟩)
theorem near_first (y : Nat) (S : Int → Nat) (pre : List Nat) (hpre : pre <+: listN y) (hg : goodEnd y S pre) : firstN (nearP y S) 64 = ((pre.getLastD 0 : Nat) : Int) := by
  obtain ⟨h1, h2, h3⟩ := hg
  obtain ⟨pre', k, rfl⟩ : ∃ pre' k, pre = pre' ++ [k] := ⟨pre.dropLast, pre.getLast h3, (List.dropLast_concat_getLast h3).symm⟩
  rw [List.getLastD_concat] at h2 ⊢
  rw [List.dropLast_concat] at h1
  obtain ⟨rest, hr⟩ := hpre
  have hk := (listN_mem y k).1 (by rw [← hr]; simp)
  refine firstN_some hk.1 ?_ fun j hj => ?_
  · show (y.testBit k && fitP y S k) = true
    rw [hk.2, h2]
    rfl
  · show (y.testBit j && fitP y S j) = false
    cases hb : y.testBit j
    · rfl
    · have hm := (listN_mem y j).2 ⟨by omega, hb⟩
      have hs : (listN y).Pairwise (· < ·) := List.Pairwise.filter _ List.pairwise_lt_range
      rw [← hr] at hm hs
      rw [List.append_assoc] at hm hs
      rcases List.mem_append.1 hm with hm | hm
      · simp [h1 j hm]
      · exfalso
        have hs2 := (List.pairwise_append.1 hs).2.1
        rcases List.mem_append.1 hm with hm | hm
        · simp at hm; omega
        · have := (List.pairwise_cons.1 hs2).1 j hm
          omega
theorem keepsFrom_below {B : Nat} {W W' : World} (h : Below W.heap.size W W') : KeepsFrom B W W' :=
  KeepsFrom.of_grownBy (row := none) ⟨h.os, h.tape, h.output, h.size, fun k hk _ => h.block k hk⟩ (fun j e => by cases e)
theorem boxed_below {W W' : World} {B : Nat} {t : TypeId} {v : Value} (h : Boxed W B t v) (hb : Below W.heap.size W W') : Boxed W' B t v := (hb.block B h.lt).trans h

theorem cell_set_ne {w : World} {B g : Nat} (h : B ≠ g) (v : Value) : (w.setCell ⟨g, 0, none⟩ v).cell? ⟨B, 0, none⟩ = w.cell? ⟨B, 0, none⟩ := by
  have := Below.heap_setCell w ⟨g, 0, none⟩ v B h
  simp [World.cell?, this]
theorem boxed_drew {W : World} {B : Nat} {t : TypeId} {v : Value} (h : Boxed W B t v) : Boxed W.drew B t v := h
theorem below_alloc' {w b : World} (h : Below w.heap.size w b) (o : Obj) : Below w.heap.size w (b.alloc o) := h.alloc h.size o
theorem wp_cut {c : Code} {P : Program} {K : Act → World → Prop} {Q : Exit → Act → World → Prop} {a : Act} {w : World} (M : Act → World → Prop) (h1 : c.wp P (Exit.then M Q) a w) (h2 : ∀ a w, M a w → K a w) : c.wp P (Exit.then K Q) a w :=
  wp_mono h1 (fun e a w h => by cases e <;> first | exact h2 _ _ h | exact h)
set_option maxRecDepth 100000 in
set_option maxHeartbeats 4000000 in
theorem nearJ_any (S : Int → Nat) (hS64 : ∀ c, S c < 2 ^ 64) (Bu : Nat) (a b : Int) (w : World) (ht : Base3 w)
    (hS : ∀ (c : Int) (w1 : World), Below w.heap.size w w1 → Calls Tryd.prog 34 #[.int .i64 c, .pointer (some ⟨Bu, 0, none⟩)] w1 (U64End (S c) w1)) :
    Calls Tryd.prog 33 #[.int .i64 a, .int .i64 b, .func (.func 34) #[] #[.pointer (some ⟨Bu, 0, none⟩)]] w (IntEnd (firstN (nearP (S a &&& S b) S) 64) w) := by
  have h1 : 1 ≤ 6 := by omega
  have HS := Lib.hid hS
  have HT := Lib.hid ht
  have hxa := hS64 a
  have hxb := hS64 b
  have HAB := Lib.hid (u64_and_nat (S a) (S b) hxa hxb)
  have HA := Lib.hid (fun w1 h => HS.out a w1 h)
  have HB := Lib.hid (fun w1 h => HS.out b w1 h)
  have hand : S a &&& S b < 2 ^ 64 := Nat.lt_of_le_of_lt Nat.and_le_left hxa
  generalize S a &&& S b = y at hand HAB ⊢
  generalize S a = xa at HA HAB
  generalize S b = xb at HB HAB
  clear hxa hxb hS ht
  refine (callsIn_wide (n := 6)).1 ?_
  refine callsIn_of_wp_marks Tryd.func33 rfl trivial ?_ rfl
  simp only [Tryd.ntmps33, List.size_toArray, List.length_cons, List.length_nil, Nat.reduceAdd, Nat.reduceSub, Array.replicate_succ, Array.replicate_zero, List.push_toArray, List.append_toArray, List.nil_append, List.cons_append]
  gi_wp2
  rename_i K hK
  have bR := Boxed.new (w.alloc (.cells #[.func (.func 34) #[] #[.pointer (some ⟨Bu, 0, none⟩)]] 47)) 3 (.int .i64 0)
  have bS := (Boxed.new w 47 (.func (.func 34) #[] #[.pointer (some ⟨Bu, 0, none⟩)])).alloc (.cells #[.int .i64 0] 3)
  have hB0 : Below w.heap.size w ((w.alloc (.cells #[.func (.func 34) #[] #[.pointer (some ⟨Bu, 0, none⟩)]] 47)).alloc (.cells #[.int .i64 0] 3)) := ((Below.refl _ w).alloc (Nat.le_refl _) _).alloc (by simp) _
  have hsz : ((w.alloc (.cells #[.func (.func 34) #[] #[.pointer (some ⟨Bu, 0, none⟩)]] 47)).alloc (.cells #[.int .i64 0] 3)).heap.size = w.heap.size + 2 := by simp
  simp only [World.size_alloc] at bR
  obtain ⟨W0, hW0⟩ : ∃ W0, (w.alloc (.cells #[.func (.func 34) #[] #[.pointer (some ⟨Bu, 0, none⟩)]] 47)).alloc (.cells #[.int .i64 0] 3) = W0 := ⟨_, rfl⟩
  rw [hW0] at bR bS hB0 hsz ⊢
  clear hW0
  have HSZ := Lib.hid hsz
  clear hsz
  have BD : Below W0.heap.size W0 W0.drew := (Below.refl _ _).drew
  have HA0 := Lib.hid (fun w1 h => HA.out w1 (below_step hB0 h))
  have HB0 := Lib.hid (fun w1 h => HB.out w1 (below_step hB0 h))
  have HC := Lib.hid (fun W (h : Below W0.heap.size W0 W) => (boxed_below bS h).cell)
  have HZ := Lib.hid (fun W (h : Below W0.heap.size W0 W) => show w.heap.size + 2 ≤ W.heap.size from by have := h.size; have := HSZ.out; omega)
  have hcS := HC.out _ BD
  have hz0 := HZ.out _ BD
  have hz1 := HZ.out _ (Below.refl _ W0)
  clear HA HB
  have hcT : (W0.alloc (Obj.cells #[Value.int IntKind.u64 0] 25)).drew.cell? ⟨w.heap.size, 0, none⟩ = some (.func (.func 34) #[] #[.pointer (some ⟨Bu, 0, none⟩)]) := HC.out _ (by (repeat (first | exact BD | exact Below.refl _ _ | refine below_step ?_ (by assumption) | refine below_alloc' ?_ _ | refine Below.drew ?_)))
  refine wpIn_wide.2 ?_
  obtain ⟨M, hM⟩ : ∃ M : Act → World → Prop, M = fun act W => ∃ Bb, w.heap.size + 2 ≤ Bb ∧ Boxed W Bb 25 (.int .u64 (y : Int)) ∧ Below W0.heap.size W0 W ∧
    act = { tmps := #[.int .i64 a, .int .i64 b, .func (.func 34) #[] #[.pointer (some ⟨Bu, 0, none⟩)], undef, undef, .pointer (some ⟨w.heap.size, 0, none⟩), .pointer (some ⟨w.heap.size + 1, 0, none⟩), .pointer (some ⟨Bb, 0, none⟩), undef, .func (.func 34) #[] #[.pointer (some ⟨Bu, 0, none⟩)], .int .i64 a, .int .u64 (xa : Int), .func (.func 34) #[] #[.pointer (some ⟨Bu, 0, none⟩)], .int .i64 b, .int .u64 (xb : Int), .int .u64 (y : Int), undef, undef, undef, undef, undef, undef, undef, undef, undef, undef], defers := [] } := ⟨_, rfl⟩
  refine wp_cut M ?_ ?_
  · go_region_held3 (fun w' => w'.cell? ⟨w.heap.size, 0, none⟩ = some (.func (.func 34) #[] #[.pointer (some ⟨Bu, 0, none⟩)])) (first | go_keep | exact hcS | assumption | exact (cell_set_ne (by omega) _).trans hcS | (refine HC.out _ ?_; (repeat (first | exact BD | exact Below.refl _ _ | refine below_step ?_ (by assumption) | refine below_alloc' ?_ _ | refine Below.drew ?_)))) (first
      | (go_at_call 34; (with_reducible refine (HA0.out _ ?_).mono ?_); (repeat (first | exact BD | exact Below.refl _ _ | refine below_step ?_ (by assumption) | refine below_alloc' ?_ _ | refine Below.drew ?_)); rintro e w3 ⟨rfl, b3⟩; have hz := HZ.out w3 (by (repeat (first | exact BD | exact Below.refl _ _ | refine below_step ?_ (by assumption) | refine below_alloc' ?_ _ | refine Below.drew ?_))); have hcS := HC.out w3 (by (repeat (first | exact BD | exact Below.refl _ _ | refine below_step ?_ (by assumption) | refine below_alloc' ?_ _ | refine Below.drew ?_))); (try (have hbx := boxed_below (Boxed.new _ _ _) b3)); (try (have hbx := boxed_below (boxed_drew (Boxed.new _ _ _)) b3)); (try (have hbx := boxed_below hbx b3)); (try (have hbc := hbx.cell)); (try (have hbf := hbx.frozen)))
      | (go_at_call 34; (with_reducible refine (HB0.out _ ?_).mono ?_); (repeat (first | exact BD | exact Below.refl _ _ | refine below_step ?_ (by assumption) | refine below_alloc' ?_ _ | refine Below.drew ?_)); rintro e w4 ⟨rfl, b4⟩; have hz := HZ.out w4 (by (repeat (first | exact BD | exact Below.refl _ _ | refine below_step ?_ (by assumption) | refine below_alloc' ?_ _ | refine Below.drew ?_))); have hcS := HC.out w4 (by (repeat (first | exact BD | exact Below.refl _ _ | refine below_step ?_ (by assumption) | refine below_alloc' ?_ _ | refine Below.drew ?_))); (try (have hbx := boxed_below (Boxed.new _ _ _) b4)); (try (have hbx := boxed_below (boxed_drew (Boxed.new _ _ _)) b4)); (try (have hbx := boxed_below hbx b4)); (try (have hbc := hbx.cell)); (try (have hbf := hbx.frozen))))
    all_goals
      show M _ _
      rw [hM, HAB.out]
      first
        | exact ⟨_, hz, Boxed.new _ _ _, by (repeat (first | exact BD | exact Below.refl _ _ | refine below_step ?_ (by assumption) | refine below_alloc' ?_ _ | refine Below.drew ?_)), rfl⟩
        | exact ⟨_, by omega, hbx.set _, Below.setCell (p := ⟨_, 0, none⟩) (by (repeat (first | exact BD | exact Below.refl _ _ | refine below_step ?_ (by assumption) | refine below_alloc' ?_ _ | refine Below.drew ?_))) (Nat.le_trans (Nat.le_of_eq HSZ.out) (by omega)) _, rfl⟩
  · intro act W hMW
    rw [hM] at hMW
    obtain ⟨Bb, hBb, bB, hBW, rfl⟩ := hMW
    clear hM M hcT
    have hBw := below_step hB0 hBW
    have bS1 := boxed_below bS hBW
    have bR1 := boxed_below bR hBW
    have hcb := bB.cell
    have HE := Lib.hid (fun w1 => each_any y w1)
    clear HA0 HB0 HC HZ hcS hz0 hz1
    refine hK _ _ ?_
    gi_wp2_with (refine ⟨trivial, ?_⟩; gi_at_call 46; refine (callsIn_wide.2 (HE.out _)).mono ?_; rintro e w' ⟨rfl, rfl⟩)
    have bX := Boxed.new W 25 (.int .u64 (y : Int))
    have bS2 := bS1.alloc (.cells #[.int .u64 (y : Int)] 25)
    have bR2 := bR1.alloc (.cells #[.int .u64 (y : Int)] 25)
    have bB2 := bB.alloc (.cells #[.int .u64 (y : Int)] 25)
    have hB2 := below_alloc' hBw (.cells #[.int .u64 (y : Int)] 25)
    have hT2 := HT.out.below hB2
    have hWs : w.heap.size + 2 ≤ W.heap.size := by have := hBW.size; have := HSZ.out; omega
    have h0w := HT.out.1
    obtain ⟨W1, hW1⟩ : ∃ W1, W.alloc (.cells #[.int .u64 (y : Int)] 25) = W1 := ⟨_, rfl⟩
    have hz1 : W1.heap.size = W.heap.size + 1 := by rw [← hW1]; simp
    rw [hW1] at bX bS2 bR2 bB2 hB2 hT2 ⊢
    refine wpIn_rangeFunc_ownG rfl h1 (gf := 56) (lb := #[.pointer (some ⟨W.heap.size, 0, none⟩)]) rfl trivial (enters_of Tryd.func56 (by kernel_rfl) rfl)
      (each_stops 5 (by omega) W.heap.size w.heap.size y hand W1 (by omega) (by omega) h0w bX.cell hT2.2) belowK_t (belowK_b (by omega)) (Below.refl _ _) (fun _ => rfl)
      (fun (pre : List Nat) W' => ((((∀ c ∈ pre, fitP y S c = false) ∧ Boxed W' (w.heap.size + 1) 3 (.int .i64 0)) ∧ Boxed W' w.heap.size 47 (.func (.func 34) #[] #[.pointer (some ⟨Bu, 0, none⟩)])) ∧ Boxed W' Bb 25 (.int .u64 (y : Int))) ∧ Below w.heap.size w W')
      (fun c (pre : List Nat) W' => ((c = .ret ∧ goodEnd y S pre) ∧ Boxed W' (w.heap.size + 1) 3 (.int .i64 ((pre.getLastD 0 : Nat) : Int))) ∧ Below w.heap.size w W')
      (OwnFrom.and (OwnFrom.and (OwnFrom.and (OwnFrom.and (ownFrom_pure _ _) (Own.from (boxed_own _ _ _) _)) (Own.from (boxed_own _ _ _) _)) (Own.from (boxed_own _ _ _) _)) (ownFrom_below (Nat.le_refl _) (by omega)))
      (fun c => OwnFrom.and (OwnFrom.and (ownFrom_pure _ _) (Own.from (boxed_own _ _ _) _)) (ownFrom_below (Nat.le_refl _) (by omega)))
      ⟨⟨⟨⟨fun c hc => (by cases hc), bR2⟩, bS2⟩, bB2⟩, hB2⟩
      (fun (k : Nat) => { tmps := #[.int .i64 a, .int .i64 b, .func (.func 34) #[] #[.pointer (some ⟨Bu, 0, none⟩)], undef, undef, .pointer (some ⟨w.heap.size, 0, none⟩), .pointer (some ⟨w.heap.size + 1, 0, none⟩), .pointer (some ⟨Bb, 0, none⟩), .int .i64 k, .func (.func 34) #[] #[.pointer (some ⟨Bu, 0, none⟩)], .int .i64 a, .int .u64 (xa : Int), .func (.func 34) #[] #[.pointer (some ⟨Bu, 0, none⟩)], .int .i64 b, .int .u64 (xb : Int), .int .u64 (y : Int), .int .u64 (y : Int), .func (.func 56) #[] #[.pointer (some ⟨W.heap.size, 0, none⟩)], .int .i64 k, undef, undef, undef, undef, undef, undef, undef], defers := [] }) ?assign ?body ?done ?stop
    case assign =>
      intro l k W' K' hK'
      gi_wp2
      exact hK'
    case body =>
      rintro l pre k W' ⟨⟨⟨⟨hp, bR3⟩, bS3⟩, bB3⟩, hB3⟩ hlt
      have hmx : Tryd.prog.follows .mixedOrders = true := by kernel_rfl
      have h3 : 1 ≤ 6 - 1 - 1 := by omega
      have BD : Below W'.heap.size W' W'.drew := (Below.refl _ _).drew
      have cS3 : W'.drew.cell? ⟨w.heap.size, 0, none⟩ = some (.func (.func 34) #[] #[.pointer (some ⟨Bu, 0, none⟩)]) := bS3.cell
      have cB3 : W'.drew.cell? ⟨Bb, 0, none⟩ = some (.int .u64 (y : Int)) := bB3.cell
      have HSk := Lib.hid (fun w1 (h : Below W'.heap.size W' w1) => HS.out k w1 (below_step hB3 h))
      have HBx := Lib.hid (fun w1 (h : Below W'.heap.size W' w1) => boxed_below bB3 h)
      have HF := Lib.hid (fit_is y S k hand (hS64 k))
      gi_wp2
      gi_region_with_o (refine ⟨trivial, ?_⟩; gi_at_call 34; refine (CallsIn.inRound l (callsIn_wide.2 (HSk.out _ ?_))).mono ?_; (repeat (first | exact BD | exact Below.refl _ _ | refine below_step ?_ (by assumption) | refine below_alloc' ?_ _ | refine Below.drew ?_)); rintro e w5 ⟨rfl, b5⟩; have B5 := HBx.out w5 (by (repeat (first | exact BD | exact Below.refl _ _ | refine below_step ?_ (by assumption) | refine below_alloc' ?_ _ | refine Below.drew ?_))); have c5 := B5.cell)
      all_goals
        have h5 : Below W'.heap.size W' w5 := by (repeat (first | exact BD | exact Below.refl _ _ | refine below_step ?_ (by assumption) | refine below_alloc' ?_ _ | refine Below.drew ?_))
        have bR5 := boxed_below bR3 h5
        have bS5 := boxed_below bS3 h5
        have bB5 := boxed_below bB3 h5
        have cR5 := bR5.cell
        have fR5 := bR5.frozen
        have hB5 := below_step hB3 h5
        have hf := HF.out
        cases hq : fitP y S k
        · rw [hq] at hf
          gi_wp2
          exact ⟨keepsFrom_below h5, h5.mono hB3.size, ⟨⟨⟨fun c hc => (List.mem_append.1 hc).elim (hp c) (fun e => by simp at e; subst e; exact hq), bR5⟩, bS5⟩, bB5⟩, hB5⟩
        · rw [hq] at hf
          gi_wp2
          exact ⟨(keepsFrom_below h5).trans ((KeepsOthers.setCell _ _ _).from _), ⟨⟨rfl, by rw [List.dropLast_concat]; exact hp, by rw [List.getLastD_concat]; exact hq, by simp⟩, by rw [List.getLastD_concat]; exact bR5.set _⟩, hB5.setCell (p := ⟨w.heap.size + 1, 0, none⟩) (by simp) _⟩
    case done =>
      rintro D ys W' hD rfl ⟨⟨⟨⟨hp, bR3⟩, bS3⟩, bB3⟩, hB3⟩ hK
      have cR := bR3.cell
      have fR := bR3.frozen
      gi_wp2
      have hK' := (KeepsOthers.setCell W' ⟨w.heap.size + 1, 0, none⟩ (.int .i64 (-1))).same D _ hK rfl
      refine ⟨by simp, .inl ⟨_, _, rfl, run_takeDeferred hK', ?_⟩⟩
      have hc5 := cell_kept (bR3.set (.int .i64 (-1))).cell (grownBy_putObj' _ D (.deferred none)) (fun r e => by cases e; exact ⟨_, hK', rfl⟩)
      refine ⟨.int .i64 (-1), ?_, ret_i64 (near_none y S hp).symm, (hB3.setCell (p := ⟨w.heap.size + 1, 0, none⟩) (by simp) _).trans (belowK_b (w := w) (Nat.le_refl _) _ D _ _ (by omega) hK' rfl rfl)⟩
      simp [results, Tryd.f33, go_sem, hc5]
    case stop =>
      rintro D c pre W' hD hpre ⟨⟨⟨rfl, hg⟩, bR3⟩, hB3⟩ hK
      gi_wp2
      refine ⟨by simp, .inl ⟨_, _, rfl, run_takeDeferred hK, ?_⟩⟩
      have hc5 := cell_kept bR3.cell (grownBy_putObj' _ D (.deferred none)) (fun r e => by cases e; exact ⟨_, hK, rfl⟩)
      refine ⟨.int .i64 ((pre.getLastD 0 : Nat) : Int), ?_, ret_i64 (near_first y S pre hpre hg).symm, hB3.trans (belowK_b (w := w) (Nat.le_refl _) W' D _ _ (by omega) hK rfl rfl)⟩
      simp [results, Tryd.f33, go_sem, hc5]

end Go.Proofs.YtilbjanjmmpkkaaDoor
