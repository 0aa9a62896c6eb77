import Derived.Test.YtlecfjingghblaaGreatDoorJ32
/- Of a claim's texts, joined: Srb Src Srd. No statement but in the last. -/
section
namespace Go.Proofs.YtlecfjingghblaaGreatDoor
open Go.RowKit Go.Sort
set_option linter.unusedVariables false

section
variable {α : Type} [Inhabited α] {lt : α → α → Bool} {I : Array α → World → Prop} {blk n low g sf : Nat} {lb sb : Array Value}
set_option maxRecDepth 100000 in
set_option maxHeartbeats 4000000 in
theorem siftDown_any (S : Srt lt I blk n low g sf lb sb) (lo hi first : Nat) (d : Array α) (W : World) (hI : I d W) (hlo : lo ≤ n) (hh : first + hi ≤ n) :
    Calls Tryz.prog 122 #[.agg #[.func (.func g) #[] lb, .func (.func sf) #[] sb], .int .i64 (lo : Int), .int .i64 (hi : Int), .int .i64 (first : Int)] W (SrtEnd I blk (.tuple #[]) (siftDown lt hi first lo d) W) := by
  have HS := Lib.hid S
  have hmost := S.most
  have eg := S.enters
  have H0 := Lib.hid (SS.start S hI)
  clear S hI
  go_enter Tryz.func122, Tryz.ntmps122
  go_wp2
  go_loopw [8] (fun vr wr => ∃ (r : Nat) (dk : Array α), vr = .int .i64 (r : Int) ∧ r ≤ n ∧ SS I blk g sf lb sb W dk wr ∧ siftDown lt hi first r dk = siftDown lt hi first lo d) (fun vr _ => n + 1 - (intOf vr).toNat)
  case atStart => exact ⟨lo, d, rfl, hlo, H0.out, rfl⟩
  case round =>
    obtain ⟨r, dk, rfl, hrn, h1, h4⟩ := hrel
    have K1 := Lib.hid h1
    have K4 := Lib.hid h4
    have c0 := h1.box.cell0
    clear h1 h4
    by_cases hc : 2 * r + 1 < hi
    · have q1 : ¬ (hi : Int) ≤ 2 * (r : Int) + 1 := by omega
      by_cases h1 : 2 * r + 2 < hi
      · have q2 : 2 * (r : Int) + 1 + 1 < (hi : Int) := by omega
        have hl := K1.out.less HS.out (first + (2 * r + 1)) (first + (2 * r + 1) + 1) (by omega) (by omega)
        rw [show ((first + (2 * r + 1) : Nat) : Int) = (first : Int) + (2 * (r : Int) + 1) by omega, show ((first + (2 * r + 1) + 1 : Nat) : Int) = (first : Int) + (2 * (r : Int) + 1) + 1 by omega] at hl
        cases hv : lt dk[first + (2 * r + 1)]! dk[first + (2 * r + 1) + 1]!
        · rw [hv] at hl
          have hv1 := hv
          have hl2 := fun w5 (h5 : SS I blk g sf lb sb W dk w5) => h5.less HS.out (first + r) (first + (2 * r + 1)) (by omega) (by omega)
          rw [show ((first + r : Nat) : Int) = (first : Int) + (r : Int) by omega, show ((first + (2 * r + 1) : Nat) : Int) = (first : Int) + (2 * (r : Int) + 1) by omega] at hl2
          cases hv2 : lt dk[first + r]! dk[first + (2 * r + 1)]!
          · rw [hv2] at hl2
            have HL2 := Lib.hid hl2
            have HE : Hid (siftDown lt hi first r dk = dk) := Lib.hid (by rw [siftDown.eq_def]; simp [hv2, hv1]; try omega)
            clear hl2 hv2
            go_wp2_with (first
              | (go_at_fn g; refine hl.mono ?_; rintro e w5 ⟨rfl, h5⟩; have c5 := h5.box.cell0; have L1 := Lib.hid h5; clear h5)
              | (go_at_fn g; refine (HL2.out _ L1.out).mono ?_; rintro e w6 ⟨rfl, h5⟩; have L2 := Lib.hid h5; clear h5))
            go_end0
            have := L2.out.done (.tuple #[])
            rwa [← HE.out, K4.out] at this
          · rw [hv2] at hl2
            have HL2 := Lib.hid hl2
            have HE : Hid (siftDown lt hi first r dk = siftDown lt hi first (2 * r + 1) (swp dk (first + r) (first + (2 * r + 1)))) := Lib.hid (by
              conv => lhs; rw [siftDown.eq_def]
              have e1 : ¬ hi ≤ 2 * r + 1 := by omega
              simp [e1, hv2, hv1]
              try omega)
            clear hl2 hv2
            go_wp2_with (first
              | (go_at_fn g; refine hl.mono ?_; rintro e w5 ⟨rfl, h5⟩; have c5 := h5.box.cell0; have L1 := Lib.hid h5; clear h5)
              | (go_at_fn g; refine (HL2.out _ L1.out).mono ?_; rintro e w6 ⟨rfl, h5⟩; have c1 := h5.box.cell1; have L2 := Lib.hid h5; clear h5))
            obtain ⟨w7, hs, h6⟩ := L2.out.swap HS.out (first + r) (first + (2 * r + 1)) (by omega) (by omega)
            rw [show ((first + r : Nat) : Int) = (first : Int) + (r : Int) by omega, show ((first + (2 * r + 1) : Nat) : Int) = (first : Int) + (2 * (r : Int) + 1) by omega] at hs
            have M1 := Lib.hid h6
            clear h6
            rw [hs, Oper.upon_value]
            go_wp2
            go_roundw
            case rel => exact ⟨2 * r + 1, _, by go_num, by omega, M1.out, by rw [← K4.out, HE.out]⟩
            case measure => simp [intOf]; omega
        · rw [hv] at hl
          have hv1 := hv
          have hl2 := fun w5 (h5 : SS I blk g sf lb sb W dk w5) => h5.less HS.out (first + r) (first + (2 * r + 2)) (by omega) (by omega)
          rw [show ((first + r : Nat) : Int) = (first : Int) + (r : Int) by omega, show ((first + (2 * r + 2) : Nat) : Int) = (first : Int) + (2 * (r : Int) + 1 + 1) by omega] at hl2
          cases hv2 : lt dk[first + r]! dk[first + (2 * r + 2)]!
          · rw [hv2] at hl2
            have HL2 := Lib.hid hl2
            have HE : Hid (siftDown lt hi first r dk = dk) := Lib.hid (by rw [siftDown.eq_def]; simp [hv2, hv1, h1]; try omega)
            clear hl2 hv2
            go_wp2_with (first
              | (go_at_fn g; refine hl.mono ?_; rintro e w5 ⟨rfl, h5⟩; have c5 := h5.box.cell0; have L1 := Lib.hid h5; clear h5)
              | (go_at_fn g; refine (HL2.out _ L1.out).mono ?_; rintro e w6 ⟨rfl, h5⟩; have L2 := Lib.hid h5; clear h5))
            go_end0
            have := L2.out.done (.tuple #[])
            rwa [← HE.out, K4.out] at this
          · rw [hv2] at hl2
            have HL2 := Lib.hid hl2
            have HE : Hid (siftDown lt hi first r dk = siftDown lt hi first (2 * r + 2) (swp dk (first + r) (first + (2 * r + 2)))) := Lib.hid (by
              conv => lhs; rw [siftDown.eq_def]
              have e1 : ¬ hi ≤ 2 * r + 1 := by omega
              simp [e1, hv2, hv1, h1]
              try omega)
            clear hl2 hv2
            go_wp2_with (first
              | (go_at_fn g; refine hl.mono ?_; rintro e w5 ⟨rfl, h5⟩; have c5 := h5.box.cell0; have L1 := Lib.hid h5; clear h5)
              | (go_at_fn g; refine (HL2.out _ L1.out).mono ?_; rintro e w6 ⟨rfl, h5⟩; have c1 := h5.box.cell1; have L2 := Lib.hid h5; clear h5))
            obtain ⟨w7, hs, h6⟩ := L2.out.swap HS.out (first + r) (first + (2 * r + 2)) (by omega) (by omega)
            rw [show ((first + r : Nat) : Int) = (first : Int) + (r : Int) by omega, show ((first + (2 * r + 2) : Nat) : Int) = (first : Int) + (2 * (r : Int) + 1 + 1) by omega] at hs
            have M1 := Lib.hid h6
            clear h6
            rw [hs, Oper.upon_value]
            go_wp2
            go_roundw
            case rel => exact ⟨2 * r + 2, _, by go_num, by omega, M1.out, by rw [← K4.out, HE.out]⟩
            case measure => simp [intOf]; omega
      · have q2 : ¬ 2 * (r : Int) + 1 + 1 < (hi : Int) := by omega
        have hl2 := fun w5 (h5 : SS I blk g sf lb sb W dk w5) => h5.less HS.out (first + r) (first + (2 * r + 1)) (by omega) (by omega)
        rw [show ((first + r : Nat) : Int) = (first : Int) + (r : Int) by omega, show ((first + (2 * r + 1) : Nat) : Int) = (first : Int) + (2 * (r : Int) + 1) by omega] at hl2
        cases hv2 : lt dk[first + r]! dk[first + (2 * r + 1)]!
        · rw [hv2] at hl2
          have HL2 := Lib.hid hl2
          have HE : Hid (siftDown lt hi first r dk = dk) := Lib.hid (by rw [siftDown.eq_def]; simp [hv2, h1]; try omega)
          clear hl2 hv2
          go_wp2_with (go_at_fn g; refine (HL2.out _ K1.out).mono ?_; rintro e w6 ⟨rfl, h5⟩; have L2 := Lib.hid h5; clear h5)
          go_end0
          have := L2.out.done (.tuple #[])
          rwa [← HE.out, K4.out] at this
        · rw [hv2] at hl2
          have HL2 := Lib.hid hl2
          have HE : Hid (siftDown lt hi first r dk = siftDown lt hi first (2 * r + 1) (swp dk (first + r) (first + (2 * r + 1)))) := Lib.hid (by
            conv => lhs; rw [siftDown.eq_def]
            have e1 : ¬ hi ≤ 2 * r + 1 := by omega
            simp [e1, hv2, h1]
            try omega)
          clear hl2 hv2
          go_wp2_with (go_at_fn g; refine (HL2.out _ K1.out).mono ?_; rintro e w6 ⟨rfl, h5⟩; have c1 := h5.box.cell1; have L2 := Lib.hid h5; clear h5)
          obtain ⟨w7, hs, h6⟩ := L2.out.swap HS.out (first + r) (first + (2 * r + 1)) (by omega) (by omega)
          rw [show ((first + r : Nat) : Int) = (first : Int) + (r : Int) by omega, show ((first + (2 * r + 1) : Nat) : Int) = (first : Int) + (2 * (r : Int) + 1) by omega] at hs
          have M1 := Lib.hid h6
          clear h6
          rw [hs, Oper.upon_value]
          go_wp2
          go_roundw
          case rel => exact ⟨2 * r + 1, _, by go_num, by omega, M1.out, by rw [← K4.out, HE.out]⟩
          case measure => simp [intOf]; omega
    · have q1 : (hi : Int) ≤ 2 * (r : Int) + 1 := by omega
      have HE : Hid (siftDown lt hi first r dk = dk) := Lib.hid (by rw [siftDown.eq_def]; simp; omega)
      go_wp2
      go_end0
      have := K1.out.done (.tuple #[])
      rwa [← HE.out, K4.out] at this
theorem heapBuild_more {hi first k : Nat} {d : Array α} : heapBuild lt hi first (k + 1) d = heapBuild lt hi first k (siftDown lt hi first k d) := rfl
theorem heapPop_more {first k : Nat} {d : Array α} : heapPop lt first (k + 1) d = heapPop lt first k (siftDown lt k first 0 (swp d first (first + k))) := rfl
set_option maxRecDepth 100000 in
set_option maxHeartbeats 4000000 in
theorem heapSort_any (S : Srt lt I blk n low g sf lb sb) (a b : Nat) (d : Array α) (W : World) (hI : I d W) (hab : a < b) (hb : b ≤ n) :
    Calls Tryz.prog 99 #[.agg #[.func (.func g) #[] lb, .func (.func sf) #[] sb], .int .i64 (a : Int), .int .i64 (b : Int)] W (SrtEnd I blk (.tuple #[]) (heapSort lt d a b) W) := by
  have HS := Lib.hid S
  have hmost := S.most
  have H0 := Lib.hid (SS.start S hI)
  clear S hI
  obtain ⟨m, hm⟩ : ∃ m, b - a = m := ⟨_, rfl⟩
  have hm1 : (b : Int) - (a : Int) = (m : Int) := by omega
  have hm2 : ((m : Int) - 1).tdiv 2 = (((m - 1) / 2 : Nat) : Int) := by rw [Int.tdiv_eq_ediv_of_nonneg (by omega)]; omega
  have hm0 : 1 ≤ m := by omega
  have ham : a + m ≤ n := by omega
  have HH : Hid (heapSort lt d a b = heapPop lt a m (heapBuild lt m a ((m - 1) / 2 + 1) d)) := Lib.hid (by unfold heapSort; rw [hm])
  clear hm
  go_enter Tryz.func99, Tryz.ntmps99
  go_wp2
  go_loopw [9] (fun vi wr => ∃ (z : Int) (k : Nat) (dk : Array α), vi = .int .i64 z ∧ z + 1 = (k : Int) ∧ k ≤ m ∧ SS I blk g sf lb sb W dk wr ∧ heapBuild lt m a k dk = heapBuild lt m a ((m - 1) / 2 + 1) d) (fun vi _ => (intOf vi + 1).toNat)
  case atStart => exact ⟨_, (m - 1) / 2 + 1, d, rfl, by omega, by omega, H0.out, rfl⟩
  case round =>
    obtain ⟨z, k, dk, rfl, hz, hk, h1, h4⟩ := hrel
    have K1 := Lib.hid h1
    have K4 := Lib.hid h4
    have c0 := h1.box.cell0
    have c1 := h1.box.cell1
    clear h1 h4
    by_cases hz0 : z < 0
    · obtain rfl : k = 0 := by omega
      have K5 : Hid (dk = heapBuild lt m a ((m - 1) / 2 + 1) d) := Lib.hid K4.out
      clear c0 c1
      obtain ⟨wo, hwo⟩ : ∃ wo : World, wo = wr := ⟨_, rfl⟩
      subst hwo
      go_wp2
      go_loopw [10] (fun vi wr => ∃ (z : Int) (k : Nat) (dj : Array α), vi = .int .i64 z ∧ z + 1 = (k : Int) ∧ k ≤ m ∧ SS I blk g sf lb sb W dj wr ∧ heapPop lt a k dj = heapPop lt a m dk) (fun vi _ => (intOf vi + 1).toNat)
      case atStart => exact ⟨_, m, dk, rfl, by omega, Nat.le_refl _, K1.out, rfl⟩
      case round =>
        obtain ⟨y, j, dj, rfl, hy, hj, h1, h4⟩ := hrel
        have M1 := Lib.hid h1
        have M4 := Lib.hid h4
        have c0 := h1.box.cell0
        have c1 := h1.box.cell1
        clear h1 h4
        by_cases hy0 : y < 0
        · obtain rfl : j = 0 := by omega
          go_wp2
          go_end0
          have := M1.out.done (.tuple #[])
          rwa [show dj = heapSort lt d a b from by rw [HH.out, ← K5.out]; exact M4.out] at this
        · obtain ⟨q, rfl⟩ : ∃ q : Nat, y = (q : Int) := ⟨y.toNat, by omega⟩
          obtain rfl : j = q + 1 := by omega
          have q0 : (0 : Int) ≤ (q : Int) := by omega
          go_wp2
          obtain ⟨w7, hs, h6⟩ := M1.out.swap HS.out a (a + q) (by omega) (by omega)
          rw [show ((a + q : Nat) : Int) = (a : Int) + (q : Int) by omega] at hs
          have c2 := h6.box.cell0
          have c3 := h6.box.cell1
          have hc := siftDown_any HS.out 0 q a (swp dj a (a + q)) w7 h6.inv (by omega) (by omega)
          rw [show (((0 : Nat) : Int)) = 0 from rfl] at hc
          have HC := Lib.hid hc
          have N1 := Lib.hid h6
          clear h6 hc
          rw [hs, Oper.upon_value]
          go_wp2_with (go_at_call 122; (with_reducible refine HC.out.mono ?_); intro e w8 h8; obtain ⟨rfl, h9⟩ := N1.out.call h8; have R1 := Lib.hid h9; clear h8 h9)
          go_roundw
          case rel => exact ⟨_, q, _, rfl, by omega, by omega, R1.out, by rw [← M4.out, heapPop_more]⟩
          case measure => simp [intOf]
    · obtain ⟨q, rfl⟩ : ∃ q : Nat, z = (q : Int) := ⟨z.toNat, by omega⟩
      obtain rfl : k = q + 1 := by omega
      have q0 : (0 : Int) ≤ (q : Int) := by omega
      have hc := siftDown_any HS.out q m a dk wr K1.out.inv (by omega) ham
      have HC := Lib.hid hc
      clear hc
      go_wp2_with (go_at_call 122; (with_reducible refine HC.out.mono ?_); intro e w8 h8; obtain ⟨rfl, h9⟩ := K1.out.call h8; have R1 := Lib.hid h9; clear h8 h9)
      go_roundw
      case rel => exact ⟨_, q, _, rfl, by omega, by omega, R1.out, by rw [← K4.out, heapBuild_more]⟩
      case measure => simp [intOf]
end

end Go.Proofs.YtlecfjingghblaaGreatDoor
end

section
namespace Go.Proofs.YtlecfjingghblaaGreatDoor
open Go.RowKit Go.Sort
set_option linter.unusedVariables false

section
variable {α : Type} [Inhabited α] {lt : α → α → Bool} {I : Array α → World → Prop} {blk n low g sf : Nat} {lb sb : Array Value}
theorem gb_set (w : World) (Q : Nat) (u : Value) : w.grownBy (w.setCell ⟨Q, 0, none⟩ u) (some Q) :=
  ⟨rfl, rfl, rfl, by simp [World.setCell], fun i _ hr => Below.heap_setCell w ⟨Q, 0, none⟩ u i (fun e => hr (by rw [e]))⟩
structure Cn (I : Array α → World → Prop) (Q : Nat) (d : Array α) (W : World) (s : Nat) (w : World) : Prop where
  inv : I d w
  has : Has w Q 3 #[.int .i64 (s : Int)]
  gr : W.grownBy w (some Q)
def OrdEnd (I : Array α → World → Prop) (Q : Nat) (d : Array α) (W : World) (r : Nat × Nat × Nat) (e : Ending) (w' : World) : Prop := e = .returned (.tuple #[.int .i64 (r.1 : Int), .int .i64 (r.2.1 : Int)]) ∧ Cn I Q d W r.2.2 w'
def MedEnd (I : Array α → World → Prop) (Q : Nat) (d : Array α) (W : World) (r : Nat × Nat) (e : Ending) (w' : World) : Prop := e = .returned (.int .i64 (r.1 : Int)) ∧ Cn I Q d W r.2 w'
set_option maxRecDepth 100000 in
set_option maxHeartbeats 2000000 in
theorem order2_any (S : Srt lt I blk n low g sf lb sb) (a b s Q : Nat) (d : Array α) (W : World) (hI : I d W) (hQ : Has W Q 3 #[.int .i64 (s : Int)]) (hlow : low ≤ Q) (ha : a < n) (hb : b < n) (hs : s ≤ 1000) :
    Calls Tryz.prog 144 #[.agg #[.func (.func g) #[] lb, .func (.func sf) #[] sb], .int .i64 (a : Int), .int .i64 (b : Int), .pointer (some ⟨Q, 0, none⟩)] W (OrdEnd I Q d W (order2 lt d a b s)) := by
  have eg := S.enters
  obtain ⟨W1, hW1⟩ : ∃ W1, W.alloc (.cells #[.func (.func g) #[] lb, .func (.func sf) #[] sb] 94) = W1 := ⟨_, rfl⟩
  have hb1 : Below W.heap.size W W1 := hW1 ▸ boxW_below W
  have hx1 : Has W1 W.heap.size 94 #[.func (.func g) #[] lb, .func (.func sf) #[] sb] := hW1 ▸ boxW_has W
  have hl := S.less d W1 b a (S.below _ _ _ hI hb1) hb ha
  have hq1 := hQ.below hb1 hQ.lt
  have c0 := hx1.cell0
  have HS := Lib.hid S
  have HI := Lib.hid hI
  have HB := Lib.hid hb1
  have HQ := Lib.hid hq1
  unfold order2
  clear S hI hQ hb1 hx1 hq1
  cases hv : lt d[b]! d[a]!
  · rw [hv] at hl
    have HL := Lib.hid hl
    clear hl hv
    go_enter Tryz.func144, Tryz.ntmps144
    go_wp2_with (go_at_fn g; refine HL.out.mono ?_; rintro e w5 ⟨rfl, h5⟩; have C5 : Hid (Cn I Q d W s w5) := Lib.hid ⟨HS.out.below _ _ _ (HS.out.below _ _ _ HI.out HB.out) h5, HQ.out.below h5 HQ.out.lt, gb_trans (gb_below HB.out _) (gb_below h5 _)⟩; clear h5)
    go_ret2
    exact ⟨rfl, C5.out⟩
  · rw [hv] at hl
    have HL := Lib.hid hl
    clear hl hv
    go_enter Tryz.func144, Tryz.ntmps144
    go_wp2_with (go_at_fn g; refine HL.out.mono ?_; rintro e w5 ⟨rfl, h5⟩; have hq5 := HQ.out.below h5 HQ.out.lt; have q0 := hq5.cell0; have f0 := hq5.free 0; have C5 : Hid (Cn I Q d W (s + 1) (w5.setCell ⟨Q, 0, none⟩ (.int .i64 ((s : Int) + 1)))) := Lib.hid ⟨HS.out.away _ _ _ _ (HS.out.below _ _ _ (HS.out.below _ _ _ HI.out HB.out) h5) hlow, hq5.store 0 _, gb_trans (gb_trans (gb_below HB.out _) (gb_below h5 _)) (gb_set w5 Q _)⟩; clear h5 hq5)
    go_ret2
    exact ⟨rfl, C5.out⟩
theorem order2_in {d : Array α} {a b s : Nat} : ((order2 lt d a b s).1 = a ∧ (order2 lt d a b s).2.1 = b ∨ (order2 lt d a b s).1 = b ∧ (order2 lt d a b s).2.1 = a) ∧ (order2 lt d a b s).2.2 ≤ s + 1 := by
  unfold order2
  split <;> simp
theorem median_in {d : Array α} {a b c s : Nat} (ha : a < n) (hb : b < n) (hc : c < n) : (median lt d a b c s).1 < n ∧ (median lt d a b c s).2 ≤ s + 3 := by
  unfold median
  dsimp only
  have h1 := order2_in (lt := lt) (d := d) (a := a) (b := b) (s := s)
  generalize order2 lt d a b s = r1 at h1
  have h2 := order2_in (lt := lt) (d := d) (a := r1.2.1) (b := c) (s := r1.2.2)
  generalize order2 lt d r1.2.1 c r1.2.2 = r2 at h2
  have h3 := order2_in (lt := lt) (d := d) (a := r1.1) (b := r2.1) (s := r2.2.2)
  generalize order2 lt d r1.1 r2.1 r2.2.2 = r3 at h3
  omega
set_option maxRecDepth 100000 in
set_option maxHeartbeats 2000000 in
theorem median_any (S : Srt lt I blk n low g sf lb sb) (a b c s Q : Nat) (d : Array α) (W : World) (hI : I d W) (hQ : Has W Q 3 #[.int .i64 (s : Int)]) (hlow : low ≤ Q) (ha : a < n) (hb : b < n) (hc : c < n) (hs : s ≤ 900) :
    Calls Tryz.prog 126 #[.agg #[.func (.func g) #[] lb, .func (.func sf) #[] sb], .int .i64 (a : Int), .int .i64 (b : Int), .int .i64 (c : Int), .pointer (some ⟨Q, 0, none⟩)] W (MedEnd I Q d W (median lt d a b c s)) := by
  obtain ⟨W1, hW1⟩ : ∃ W1, W.alloc (.cells #[.func (.func g) #[] lb, .func (.func sf) #[] sb] 94) = W1 := ⟨_, rfl⟩
  have hb1 : Below W.heap.size W W1 := hW1 ▸ boxW_below W
  have hx1 : Has W1 W.heap.size 94 #[.func (.func g) #[] lb, .func (.func sf) #[] sb] := hW1 ▸ boxW_has W
  have HS := Lib.hid S
  have C1 : Hid (Cn I Q d W s W1) := Lib.hid ⟨S.below _ _ _ hI hb1, hQ.below hb1 hQ.lt, gb_below hb1 _⟩
  have HX := Lib.hid hx1
  have hQW : Q < W.heap.size := hQ.lt
  have b0 := hx1.cell0
  have b1 := hx1.cell1
  have o1 := order2_in (lt := lt) (d := d) (a := a) (b := b) (s := s)
  unfold median
  dsimp only
  have A1 := Lib.hid (fun w h => order2_any S a b s Q d w h)
  generalize order2 lt d a b s = r1 at o1 A1
  have o2 := order2_in (lt := lt) (d := d) (a := r1.2.1) (b := c) (s := r1.2.2)
  have A2 := Lib.hid (fun w h => order2_any S r1.2.1 c r1.2.2 Q d w h)
  generalize order2 lt d r1.2.1 c r1.2.2 = r2 at o2 A2
  have o3 := order2_in (lt := lt) (d := d) (a := r1.1) (b := r2.1) (s := r2.2.2)
  have A3 := Lib.hid (fun w h => order2_any S r1.1 r2.1 r2.2.2 Q d w h)
  generalize order2 lt d r1.1 r2.1 r2.2.2 = r3 at o3 A3
  obtain ⟨x1, y1, s1⟩ := r1
  obtain ⟨x2, y2, s2⟩ := r2
  obtain ⟨x3, y3, s3⟩ := r3
  dsimp only at *
  have O1 := Lib.hid o1
  have O2 := Lib.hid o2
  have O3 := Lib.hid o3
  have k1 : x1 < n ∧ y1 < n ∧ s1 ≤ s + 1 := by omega
  have k2 : x2 < n ∧ y2 < n ∧ s2 ≤ s + 2 := by omega
  have k3 : x3 < n ∧ y3 < n ∧ s3 ≤ s + 3 := by omega
  have KK := Lib.hid (And.intro k1 (And.intro k2 k3))
  clear S hI hQ hb1 hx1 o1 o2 o3 k1 k2 k3
  go_enter Tryz.func126, Tryz.ntmps126
  go_wp2_with (first
    | (go_at_call 144; (with_reducible refine (A1.out W1 C1.out.inv C1.out.has hlow ha hb (by omega)).mono ?_); rintro e w2 ⟨rfl, h5⟩; have C2 : Hid (Cn I Q d W s1 w2) := Lib.hid ⟨h5.inv, h5.has, gb_trans C1.out.gr h5.gr⟩; have hx2 := HX.out.grown h5.gr (fun e => by injection e with e; omega); have X2 := Lib.hid hx2; have b2 := hx2.cell0; have b3 := hx2.cell1; clear h5 hx2)
    | (go_at_call 144; (with_reducible refine (A2.out w2 C2.out.inv C2.out.has hlow KK.out.1.2.1 hc (by have := KK.out.1; omega)).mono ?_); rintro e w3 ⟨rfl, h5⟩; have C3 : Hid (Cn I Q d W s2 w3) := Lib.hid ⟨h5.inv, h5.has, gb_trans C2.out.gr h5.gr⟩; have hx3 := X2.out.grown h5.gr (fun e => by injection e with e; omega); have b4 := hx3.cell0; have b5 := hx3.cell1; clear h5 hx3)
    | (go_at_call 144; (with_reducible refine (A3.out w3 C3.out.inv C3.out.has hlow KK.out.1.1 KK.out.2.1.1 (by have := KK.out.2.1; omega)).mono ?_); rintro e w4 ⟨rfl, h5⟩; have C4 : Hid (Cn I Q d W s3 w4) := Lib.hid ⟨h5.inv, h5.has, gb_trans C3.out.gr h5.gr⟩; clear h5))
  go_ret
  exact ⟨rfl, C4.out⟩
set_option maxRecDepth 100000 in
set_option maxHeartbeats 2000000 in
theorem medAdj_any (S : Srt lt I blk n low g sf lb sb) (a s Q : Nat) (d : Array α) (W : World) (hI : I d W) (hQ : Has W Q 3 #[.int .i64 (s : Int)]) (hlow : low ≤ Q) (ha0 : 1 ≤ a) (ha : a + 1 < n) (hs : s ≤ 900) :
    Calls Tryz.prog 125 #[.agg #[.func (.func g) #[] lb, .func (.func sf) #[] sb], .int .i64 (a : Int), .pointer (some ⟨Q, 0, none⟩)] W (MedEnd I Q d W (medianAdjacent lt d a s)) := by
  obtain ⟨W1, hW1⟩ : ∃ W1, W.alloc (.cells #[.func (.func g) #[] lb, .func (.func sf) #[] sb] 94) = W1 := ⟨_, rfl⟩
  have hb1 : Below W.heap.size W W1 := hW1 ▸ boxW_below W
  have hx1 : Has W1 W.heap.size 94 #[.func (.func g) #[] lb, .func (.func sf) #[] sb] := hW1 ▸ boxW_has W
  have hmost := S.most
  have HM := Lib.hid (median_any S (a - 1) a (a + 1) s Q d W1 (S.below _ _ _ hI hb1) (hQ.below hb1 hQ.lt) hlow (by omega) (by omega) ha hs)
  rw [show ((a - 1 : Nat) : Int) = (a : Int) - 1 by omega, show ((a + 1 : Nat) : Int) = (a : Int) + 1 by omega] at HM
  have HB := Lib.hid hb1
  have b0 := hx1.cell0
  have b1 := hx1.cell1
  unfold medianAdjacent
  generalize median lt d (a - 1) a (a + 1) s = r at HM
  clear S hI hQ hb1 hx1
  go_enter Tryz.func125, Tryz.ntmps125
  go_wp2_with (go_at_call 126; (with_reducible refine HM.out.mono ?_); rintro e w2 ⟨rfl, h5⟩; have C2 : Hid (Cn I Q d W r.2 w2) := Lib.hid ⟨h5.inv, h5.has, gb_trans (gb_below HB.out _) h5.gr⟩; clear h5)
  go_ret
  exact ⟨rfl, C2.out⟩
end

end Go.Proofs.YtlecfjingghblaaGreatDoor
end

section
namespace Go.Proofs.YtlecfjingghblaaGreatDoor
open Go.RowKit Go.Sort
set_option linter.unusedVariables false

section
variable {α : Type} [Inhabited α] {lt : α → α → Bool} {I : Array α → World → Prop} {blk n low g sf : Nat} {lb sb : Array Value}
def hintI : Hint → Int
  | .unknown => 0
  | .increasing => 1
  | .decreasing => 2
def pivBig (lt : α → α → Bool) (d : Array α) (a q : Nat) : Nat × Nat := median lt d (medianAdjacent lt d (a + q * 1) 0).1 (medianAdjacent lt d (a + q * 2) (medianAdjacent lt d (a + q * 1) 0).2).1
  (medianAdjacent lt d (a + q * 3) (medianAdjacent lt d (a + q * 2) (medianAdjacent lt d (a + q * 1) 0).2).2).1 (medianAdjacent lt d (a + q * 3) (medianAdjacent lt d (a + q * 2) (medianAdjacent lt d (a + q * 1) 0).2).2).2
def finP (r : Nat × Nat) : Nat × Hint := (r.1, if r.2 = 0 then .increasing else if r.2 = 12 then .decreasing else .unknown)
set_option maxRecDepth 100000 in
set_option maxHeartbeats 8000000 in
theorem choosePiv_any (S : Srt lt I blk n low g sf lb sb) (a b : Nat) (d : Array α) (W : World) (hI : I d W) (hab : a + 8 ≤ b) (hb : b ≤ n) :
    Calls Tryz.prog 101 #[.agg #[.func (.func g) #[] lb, .func (.func sf) #[] sb], .int .i64 (a : Int), .int .i64 (b : Int)] W fun e w' => e = .returned (.tuple #[.int .i64 ((choosePivot lt d a b).1 : Int), .int .i64 (hintI (choosePivot lt d a b).2)]) ∧ I d w' ∧ Below W.heap.size W w' := by
  have hmost := S.most
  obtain ⟨W2, hW2⟩ : ∃ W2, (W.alloc (.cells #[.func (.func g) #[] lb, .func (.func sf) #[] sb] 94)).alloc (.cells #[.int .i64 0] 3) = W2 := ⟨_, rfl⟩
  have hs1 : (W.alloc (.cells #[.func (.func g) #[] lb, .func (.func sf) #[] sb] 94)).heap.size = W.heap.size + 1 := by simp
  have hb2 : Below W.heap.size W W2 := by rw [← hW2]; exact (boxW_below W).alloc (boxW_below W).size _
  have hx2 : Has W2 W.heap.size 94 #[.func (.func g) #[] lb, .func (.func sf) #[] sb] := by rw [← hW2]; exact (boxW_has W).alloc _
  have hq2 : Has W2 (W.heap.size + 1) 3 #[.int .i64 ((0 : Nat) : Int)] := by
    rw [← hW2, ← hs1]
    exact Has.made _ _ _
  have hlow := S.high d W hI
  have C2 : Hid (Cn I (W.heap.size + 1) d W2 0 W2) := Lib.hid ⟨S.below _ _ _ hI hb2, hq2, gb_refl _ _⟩
  have HX := Lib.hid hx2
  have HE : Hid (∀ {w'}, W2.grownBy w' (some (W.heap.size + 1)) → Below W.heap.size W w') := Lib.hid (fun h => hb2.grown h hb2.size (fun k hk => by injection hk with hk; omega))
  have b0 := hx2.cell0
  have b1 := hx2.cell1
  have hsz : W.heap.size < W2.heap.size := hx2.lt
  obtain ⟨m, hm⟩ : ∃ m, b - a = m := ⟨_, rfl⟩
  obtain ⟨q, hq⟩ : ∃ q, m / 4 = q := ⟨_, rfl⟩
  have hm1 : (b : Int) - (a : Int) = (m : Int) := by omega
  have hq1 : (m : Int).tdiv 4 = (q : Int) := by rw [Int.tdiv_eq_ediv_of_nonneg (by omega)]; omega
  have hq3 : (m : Int) / 4 = (q : Int) := by omega
  have hm8 : ¬ (m : Int) < 8 := by omega
  have hm9 : (8 : Int) ≤ (m : Int) := by omega
  have hq0 : 2 ≤ q := by omega
  have hqn : a + q * 3 + 2 ≤ n := by omega
  have HCH : Hid (choosePivot lt d a b = finP (if 50 ≤ m then pivBig lt d a q else median lt d (a + q * 1) (a + q * 2) (a + q * 3) 0)) := Lib.hid (by
    unfold choosePivot
    simp only [hm, hq, ge_iff_le]
    rw [if_pos (show 8 ≤ m by omega)]
    rfl)
  rw [HCH.out]
  clear HCH
  by_cases h50 : 50 ≤ m
  · rw [if_pos h50]
    unfold pivBig
    have hm50 : (50 : Int) ≤ (m : Int) := by omega
    have j1 := median_in (lt := lt) (d := d) (a := a + q * 1 - 1) (b := a + q * 1) (c := a + q * 1 + 1) (s := 0) (n := n) (by omega) (by omega) (by omega)
    have A1 := Lib.hid (fun w h h' => medAdj_any S (a + q * 1) 0 (W.heap.size + 1) d w h h' (by omega) (by omega) (by omega) (by omega))
    unfold medianAdjacent at A1 ⊢
    generalize median lt d (a + q * 1 - 1) (a + q * 1) (a + q * 1 + 1) 0 = r1 at j1 A1
    have j2 := median_in (lt := lt) (d := d) (a := a + q * 2 - 1) (b := a + q * 2) (c := a + q * 2 + 1) (s := r1.2) (n := n) (by omega) (by omega) (by omega)
    have A2 := Lib.hid (fun w h h' => medAdj_any S (a + q * 2) r1.2 (W.heap.size + 1) d w h h' (by omega) (by omega) (by omega) (by omega))
    unfold medianAdjacent at A2
    generalize median lt d (a + q * 2 - 1) (a + q * 2) (a + q * 2 + 1) r1.2 = r2 at j2 A2
    have j3 := median_in (lt := lt) (d := d) (a := a + q * 3 - 1) (b := a + q * 3) (c := a + q * 3 + 1) (s := r2.2) (n := n) (by omega) (by omega) (by omega)
    have A3 := Lib.hid (fun w h h' => medAdj_any S (a + q * 3) r2.2 (W.heap.size + 1) d w h h' (by omega) (by omega) (by omega) (by omega))
    unfold medianAdjacent at A3
    generalize median lt d (a + q * 3 - 1) (a + q * 3) (a + q * 3 + 1) r2.2 = r3 at j3 A3
    have A4 := Lib.hid (fun w h h' => median_any S r1.1 r2.1 r3.1 r3.2 (W.heap.size + 1) d w h h' (by omega) j1.1 j2.1 j3.1 (by omega))
    rw [show ((a + q * 1 : Nat) : Int) = (a : Int) + (q : Int) by omega] at A1
    rw [show ((a + q * 2 : Nat) : Int) = (a : Int) + (q : Int) * 2 by omega] at A2
    rw [show ((a + q * 3 : Nat) : Int) = (a : Int) + (q : Int) * 3 by omega] at A3
    generalize median lt d r1.1 r2.1 r3.1 r3.2 = r at A4
    unfold finP
    dsimp only
    clear S hI hb2 hx2 hq2 hm hq hs1 j1 j2 j3
    by_cases z1 : r.2 = 0
    · rw [if_pos z1]
      obtain ⟨r0, rs⟩ := r
      dsimp only at *
      subst z1
      unfold hintI
      go_enter Tryz.func101, Tryz.ntmps101
      go_wp2_with (first
        | (go_at_call 125; (with_reducible refine (A1.out W2 C2.out.inv C2.out.has).mono ?_); rintro e w3 ⟨rfl, h5⟩; have C3 : Hid (Cn I (W.heap.size + 1) d W2 r1.2 w3) := Lib.hid ⟨h5.inv, h5.has, gb_trans C2.out.gr h5.gr⟩; have hx := HX.out.grown h5.gr (fun e => by injection e with e; omega); have X3 := Lib.hid hx; have p3 := hx.cell0; have q3 := hx.cell1; clear h5 hx)
        | (go_at_call 125; (with_reducible refine (A2.out w3 C3.out.inv C3.out.has).mono ?_); rintro e w4 ⟨rfl, h5⟩; have C4 : Hid (Cn I (W.heap.size + 1) d W2 r2.2 w4) := Lib.hid ⟨h5.inv, h5.has, gb_trans C3.out.gr h5.gr⟩; have hx := X3.out.grown h5.gr (fun e => by injection e with e; omega); have X4 := Lib.hid hx; have p4 := hx.cell0; have q4 := hx.cell1; clear h5 hx)
        | (go_at_call 125; (with_reducible refine (A3.out w4 C4.out.inv C4.out.has).mono ?_); rintro e w5 ⟨rfl, h5⟩; have C5 : Hid (Cn I (W.heap.size + 1) d W2 r3.2 w5) := Lib.hid ⟨h5.inv, h5.has, gb_trans C4.out.gr h5.gr⟩; have hx := X4.out.grown h5.gr (fun e => by injection e with e; omega); have X5 := Lib.hid hx; have p5 := hx.cell0; have q5 := hx.cell1; clear h5 hx)
        | (go_at_call 126; (with_reducible refine (A4.out w5 C5.out.inv C5.out.has).mono ?_); rintro e w6 ⟨rfl, h5⟩; have z0 := h5.has.cell0; have E6 : Hid (I d w6 ∧ Below W.heap.size W w6) := Lib.hid ⟨h5.inv, HE.out (gb_trans C5.out.gr h5.gr)⟩; clear h5))
      go_ret2
      exact ⟨rfl, E6.out⟩
    · by_cases z2 : r.2 = 12
      · rw [if_neg z1, if_pos z2]
        obtain ⟨r0, rs⟩ := r
        dsimp only at *
        subst z2
        clear z1
        unfold hintI
        go_enter Tryz.func101, Tryz.ntmps101
        go_wp2_with (first
          | (go_at_call 125; (with_reducible refine (A1.out W2 C2.out.inv C2.out.has).mono ?_); rintro e w3 ⟨rfl, h5⟩; have C3 : Hid (Cn I (W.heap.size + 1) d W2 r1.2 w3) := Lib.hid ⟨h5.inv, h5.has, gb_trans C2.out.gr h5.gr⟩; have hx := HX.out.grown h5.gr (fun e => by injection e with e; omega); have X3 := Lib.hid hx; have p3 := hx.cell0; have q3 := hx.cell1; clear h5 hx)
          | (go_at_call 125; (with_reducible refine (A2.out w3 C3.out.inv C3.out.has).mono ?_); rintro e w4 ⟨rfl, h5⟩; have C4 : Hid (Cn I (W.heap.size + 1) d W2 r2.2 w4) := Lib.hid ⟨h5.inv, h5.has, gb_trans C3.out.gr h5.gr⟩; have hx := X3.out.grown h5.gr (fun e => by injection e with e; omega); have X4 := Lib.hid hx; have p4 := hx.cell0; have q4 := hx.cell1; clear h5 hx)
          | (go_at_call 125; (with_reducible refine (A3.out w4 C4.out.inv C4.out.has).mono ?_); rintro e w5 ⟨rfl, h5⟩; have C5 : Hid (Cn I (W.heap.size + 1) d W2 r3.2 w5) := Lib.hid ⟨h5.inv, h5.has, gb_trans C4.out.gr h5.gr⟩; have hx := X4.out.grown h5.gr (fun e => by injection e with e; omega); have X5 := Lib.hid hx; have p5 := hx.cell0; have q5 := hx.cell1; clear h5 hx)
          | (go_at_call 126; (with_reducible refine (A4.out w5 C5.out.inv C5.out.has).mono ?_); rintro e w6 ⟨rfl, h5⟩; have z0 := h5.has.cell0; have E6 : Hid (I d w6 ∧ Below W.heap.size W w6) := Lib.hid ⟨h5.inv, HE.out (gb_trans C5.out.gr h5.gr)⟩; clear h5))
        go_ret2
        exact ⟨rfl, E6.out⟩
      · rw [if_neg z1, if_neg z2]
        obtain ⟨r0, rs⟩ := r
        dsimp only at *
        have z3 : ((rs : Int) == 0) = false := by simp; omega
        have z4 : ((rs : Int) == 12) = false := by simp; omega
        clear z1 z2
        unfold hintI
        go_enter Tryz.func101, Tryz.ntmps101
        go_wp2_with (first
          | (go_at_call 125; (with_reducible refine (A1.out W2 C2.out.inv C2.out.has).mono ?_); rintro e w3 ⟨rfl, h5⟩; have C3 : Hid (Cn I (W.heap.size + 1) d W2 r1.2 w3) := Lib.hid ⟨h5.inv, h5.has, gb_trans C2.out.gr h5.gr⟩; have hx := HX.out.grown h5.gr (fun e => by injection e with e; omega); have X3 := Lib.hid hx; have p3 := hx.cell0; have q3 := hx.cell1; clear h5 hx)
          | (go_at_call 125; (with_reducible refine (A2.out w3 C3.out.inv C3.out.has).mono ?_); rintro e w4 ⟨rfl, h5⟩; have C4 : Hid (Cn I (W.heap.size + 1) d W2 r2.2 w4) := Lib.hid ⟨h5.inv, h5.has, gb_trans C3.out.gr h5.gr⟩; have hx := X3.out.grown h5.gr (fun e => by injection e with e; omega); have X4 := Lib.hid hx; have p4 := hx.cell0; have q4 := hx.cell1; clear h5 hx)
          | (go_at_call 125; (with_reducible refine (A3.out w4 C4.out.inv C4.out.has).mono ?_); rintro e w5 ⟨rfl, h5⟩; have C5 : Hid (Cn I (W.heap.size + 1) d W2 r3.2 w5) := Lib.hid ⟨h5.inv, h5.has, gb_trans C4.out.gr h5.gr⟩; have hx := X4.out.grown h5.gr (fun e => by injection e with e; omega); have X5 := Lib.hid hx; have p5 := hx.cell0; have q5 := hx.cell1; clear h5 hx)
          | (go_at_call 126; (with_reducible refine (A4.out w5 C5.out.inv C5.out.has).mono ?_); rintro e w6 ⟨rfl, h5⟩; have z0 := h5.has.cell0; have E6 : Hid (I d w6 ∧ Below W.heap.size W w6) := Lib.hid ⟨h5.inv, HE.out (gb_trans C5.out.gr h5.gr)⟩; clear h5))
        go_ret2
        exact ⟨rfl, E6.out⟩
  · rw [if_neg h50]
    have hm50 : ¬ (50 : Int) ≤ (m : Int) := by omega
    have A4 := Lib.hid (fun w h h' => median_any S (a + q * 1) (a + q * 2) (a + q * 3) 0 (W.heap.size + 1) d w h h' (by omega) (by omega) (by omega) (by omega) (by omega))
    rw [show ((a + q * 1 : Nat) : Int) = (a : Int) + (q : Int) by omega, show ((a + q * 2 : Nat) : Int) = (a : Int) + (q : Int) * 2 by omega, show ((a + q * 3 : Nat) : Int) = (a : Int) + (q : Int) * 3 by omega] at A4
    generalize median lt d (a + q * 1) (a + q * 2) (a + q * 3) 0 = r at A4
    unfold finP
    dsimp only
    clear S hI hb2 hx2 hq2 hm hq hs1
    by_cases z1 : r.2 = 0
    · rw [if_pos z1]
      obtain ⟨r0, rs⟩ := r
      dsimp only at *
      subst z1
      unfold hintI
      go_enter Tryz.func101, Tryz.ntmps101
      go_wp2_with (first
        | (go_at_call 126; (with_reducible refine (A4.out W2 C2.out.inv C2.out.has).mono ?_); rintro e w6 ⟨rfl, h5⟩; have z0 := h5.has.cell0; have E6 : Hid (I d w6 ∧ Below W.heap.size W w6) := Lib.hid ⟨h5.inv, HE.out h5.gr⟩; clear h5))
      go_ret2
      exact ⟨rfl, E6.out⟩
    · by_cases z2 : r.2 = 12
      · rw [if_neg z1, if_pos z2]
        obtain ⟨r0, rs⟩ := r
        dsimp only at *
        subst z2
        clear z1
        unfold hintI
        go_enter Tryz.func101, Tryz.ntmps101
        go_wp2_with (first
          | (go_at_call 126; (with_reducible refine (A4.out W2 C2.out.inv C2.out.has).mono ?_); rintro e w6 ⟨rfl, h5⟩; have z0 := h5.has.cell0; have E6 : Hid (I d w6 ∧ Below W.heap.size W w6) := Lib.hid ⟨h5.inv, HE.out h5.gr⟩; clear h5))
        go_ret2
        exact ⟨rfl, E6.out⟩
      · rw [if_neg z1, if_neg z2]
        obtain ⟨r0, rs⟩ := r
        dsimp only at *
        have z3 : ((rs : Int) == 0) = false := by simp; omega
        have z4 : ((rs : Int) == 12) = false := by simp; omega
        clear z1 z2
        unfold hintI
        go_enter Tryz.func101, Tryz.ntmps101
        go_wp2_with (first
          | (go_at_call 126; (with_reducible refine (A4.out W2 C2.out.inv C2.out.has).mono ?_); rintro e w6 ⟨rfl, h5⟩; have z0 := h5.has.cell0; have E6 : Hid (I d w6 ∧ Below W.heap.size W w6) := Lib.hid ⟨h5.inv, HE.out h5.gr⟩; clear h5))
        go_ret2
        exact ⟨rfl, E6.out⟩
end

end Go.Proofs.YtlecfjingghblaaGreatDoor
end
