/- The walk of the law GrantsTells. -/
import Derived.Test.YtbgpjboefnacgaaGra
import Derived.Deep.RegionWith
import Derived.Deep.RegionHeld
import Derived.BigQuiet
namespace Go.Proofs.Ytbgpjboefnacgaa
open Go.RowKit
set_option linter.unusedVariables false

theorem ArgG.take {w : World} {A : Option Addr} {n c : Nat} {l : List G} (h : ArgG w A n c l) {k : Nat} (hk : k ≤ n) : ArgG w A k c (l.take k) := by
  have hl := h.len
  refine ⟨by rw [List.length_take]; omega, fun hn => ?_, fun hk' => h.old (by omega), by have := h.room; omega, h.most⟩
  have e : cellsG (l.take k) = (cellsG l).take (3 * k) := cellsG_take l k
  rw [e] at hn ⊢
  obtain ⟨g, off, hA, hc⟩ := h.reads (by rw [List.length_take] at hn; omega)
  refine ⟨g, off, hA, fun j u hj => hc j u ?_⟩
  rw [List.getElem?_take] at hj
  split at hj
  · exact hj
  · exact absurd hj (by simp)

set_option maxRecDepth 100000 in
set_option maxHeartbeats 2000000 in
theorem walkGrTells (A B : Option Addr) (n c m d x : Nat) (up : List Nat) (l : List G) (w : World) (ht : Base4 w) (hu : ArgU w A n c up) (hl : ArgG w B m d l) (hx : x < 2 ^ 64) :
    Calls Try.prog 3 #[.slice A n c, .slice B m d, .int .u64 x] w fun e w' => e = .returned (.bool true) ∧ Below w.heap.size w w' := by
  have HT := Lib.hid ht
  have HU := Lib.hid hu
  have HG := Lib.hid hl
  clear ht hu hl
  by_cases hg : 12 < n
  · have e1 : decide (12 < (n : Int)) = true := by simp; omega
    go_enter Try.func3, Try.ntmps3
    go_wp2_with (go_at_call 8; refine (awake04_any _ HT.out).mono ?_; rintro e w0 ⟨rfl, h0⟩; have B0 := Lib.hid h0; clear h0)
    go_ret
    exact ⟨rfl, B0.out⟩
  have e1 : decide (12 < (n : Int)) = false := by simp; omega
  by_cases hg2 : 70 < m
  · have e2 : decide (70 < (m : Int)) = true := by simp; omega
    go_enter Try.func3, Try.ntmps3
    go_wp2_with (go_at_call 8; refine (awake04_any _ HT.out).mono ?_; rintro e w0 ⟨rfl, h0⟩; have B0 := Lib.hid h0; clear h0)
    go_ret
    exact ⟨rfl, B0.out⟩
  have e2 : decide (70 < (m : Int)) = false := by simp; omega
  have HC := Lib.hid (fun w1 (h1 : Below w.heap.size w w1) => r3Check_any up A n c w1 (HU.out.below h1) (by omega))
  by_cases hc : IsLat up
  · rw [checkB_yes hc] at HC
    go_enter Try.func3, Try.ntmps3
    go_wp2_with (first
      | (go_at_call 8; refine (awake04_any _ HT.out).mono ?_; rintro e w0 ⟨rfl, h0⟩; have B0 := Lib.hid h0; clear h0)
      | (go_at_call 9; refine (HC.out _ B0.out).mono ?_; rintro e w1 ⟨rfl, h1⟩; have B1 := Lib.hid (below_step B0.out h1); clear h1))
    go_loopw [8] (fun i wr => ∃ k : Nat, k ≤ m ∧ i = .int .i64 k ∧ Below w.heap.size w wr) (fun i _ => m - (intOf i).toNat)
    case atStart => exact ⟨0, Nat.zero_le _, rfl, B1.out⟩
    case round =>
      obtain ⟨k, hk, rfl, hB⟩ := hrel
      have BW := Lib.hid hB
      clear hB
      by_cases hlt : k + 1 < m
      · have hkl : k < l.length := by have := HG.out.len; omega
        have hjl : k + 1 < l.length := by have := HG.out.len; omega
        obtain ⟨b, off, hBa, -⟩ := HG.out.reads.gat hkl
        subst hBa
        have HS := Lib.hid (fun w1 (h1 : Below w.heap.size w w1) => show (w1.cell? ⟨b, off + k * 3, none⟩ = some (.int .i64 l[k].a) ∧ w1.cell? ⟨b, off + k * 3 + 1, none⟩ = some (.int .i64 l[k].f) ∧ w1.cell? ⟨b, off + k * 3 + 2, none⟩ = some (.int .i64 l[k].t)) ∧
            w1.cell? ⟨b, off + (k + 1) * 3, none⟩ = some (.int .i64 l[k + 1].a) ∧ w1.cell? ⟨b, off + (k + 1) * 3 + 1, none⟩ = some (.int .i64 l[k + 1].f) ∧ w1.cell? ⟨b, off + (k + 1) * 3 + 2, none⟩ = some (.int .i64 l[k + 1].t) by
          obtain ⟨b', off', hA', h⟩ := (HG.out.below h1).reads.gat hkl
          obtain ⟨b2, off2, hA2, h2⟩ := (HG.out.below h1).reads.gat hjl
          injection hA' with hA'
          injection hA' with q5 q6
          subst q5 q6
          injection hA2 with hA2
          injection hA2 with q5 q6
          subst q5 q6
          exact ⟨h, h2⟩)
        have HP := Lib.hid (fun w1 (h1 : Below w.heap.size w w1) => (HG.out.below h1).take (k := k) (by omega))
        obtain ⟨v1, hv1⟩ : ∃ v, lessG l[k] l[k + 1] = v := ⟨_, rfl⟩
        obtain ⟨v2, hv2⟩ : ∃ v, fitsG up l[k] = v := ⟨_, rfl⟩
        obtain ⟨v3, hv3⟩ : ∃ v, mayG (l.take k) l[k] = v := ⟨_, rfl⟩
        have F1 := Lib.hid (fun w1 (h1 : Below w.heap.size w w1) => show Calls Try.prog 10 #[.agg #[.int .i64 l[k].a, .int .i64 l[k].f, .int .i64 l[k].t], .agg #[.int .i64 l[k + 1].a, .int .i64 l[k + 1].f, .int .i64 l[k + 1].t]] w1 (BoolEnd v1 w1) by
          have := gLess_any l[k] l[k + 1] w1 (HT.out.below h1)
          rwa [hv1] at this)
        have F2 := Lib.hid (fun w1 (h1 : Below w.heap.size w w1) => show Calls Try.prog 11 #[.agg #[.int .i64 l[k].a, .int .i64 l[k].f, .int .i64 l[k].t], .agg #[.int .i64 l[k + 1].a, .int .i64 l[k + 1].f, .int .i64 l[k + 1].t]] w1 (BoolEnd v1 w1) by
          have := r4Less_any l[k] l[k + 1] w1
          rwa [hv1] at this)
        have F3 := Lib.hid (fun w1 (h1 : Below w.heap.size w w1) => show Calls Try.prog 12 #[.slice A n c, .agg #[.int .i64 l[k].a, .int .i64 l[k].f, .int .i64 l[k].t]] w1 (BoolEnd v2 w1) by
          have := gFits_any up A n c l[k] w1 (HT.out.below h1) hc (HU.out.below h1)
          rwa [hv2] at this)
        have F4 := Lib.hid (fun w1 (h1 : Below w.heap.size w w1) => show Calls Try.prog 13 #[.slice A n c, .agg #[.int .i64 l[k].a, .int .i64 l[k].f, .int .i64 l[k].t]] w1 (BoolEnd v2 w1) by
          have := r4Fits_any up A n c l[k] w1 (HU.out.below h1) (by omega)
          rwa [hv2] at this)
        have F5 := Lib.hid (fun w1 (h1 : Below w.heap.size w w1) => show Calls Try.prog 14 #[.slice (some ⟨b, off, none⟩) k d, .agg #[.int .i64 l[k].a, .int .i64 l[k].f, .int .i64 l[k].t]] w1 (BoolEnd v3 w1) by
          have := gMay_any _ k d (l.take k) l[k] w1 (HT.out.below h1) (HP.out w1 h1) (by omega)
          rwa [hv3] at this)
        have F6 := Lib.hid (fun w1 (h1 : Below w.heap.size w w1) => show Calls Try.prog 15 #[.slice (some ⟨b, off, none⟩) k d, .agg #[.int .i64 l[k].a, .int .i64 l[k].f, .int .i64 l[k].t]] w1 (BoolEnd v3 w1) by
          have := r4May_any _ k d (l.take k) l[k] w1 (HP.out w1 h1) (by omega)
          rwa [hv3] at this)
        obtain ⟨j, hj⟩ : ∃ j, k + 1 = j := ⟨_, rfl⟩
        clear hv1 hv2 hv3
        generalize l[k + 1] = y at HS F1 F2
        generalize l[k] = z at HS F1 F2 F3 F4 F5 F6
        rw [hj] at HS
        have i0 : (0 : Int) ≤ (k : Int) := by omega
        have i1 : (k : Int) < (m : Int) := by omega
        have i2 : (k : Int) ≤ (d : Int) := by have := HG.out.room; omega
        have i3 : (0 : Int) ≤ (j : Int) := by omega
        have i4 : (j : Int) < (m : Int) := by omega
        have i5 : IntKind.i64.wrap ((k : Int) + 1) = (j : Int) := by rw [IntKind.wrap_i64]; omega
        have hkj := Lib.hid hj
        clear hkl hjl hlt hj
        have e3 : decide ((j : Int) < (m : Int)) = true := by simp; omega
        go_wp2
        have BD := BW.out.drew
        have hS := HS.out _ BD
        go_region_held (fun w' => (w'.cell? ⟨b, off + k * 3, none⟩ = some (.int .i64 z.a) ∧ w'.cell? ⟨b, off + k * 3 + 1, none⟩ = some (.int .i64 z.f) ∧ w'.cell? ⟨b, off + k * 3 + 2, none⟩ = some (.int .i64 z.t)) ∧ w'.cell? ⟨b, off + j * 3, none⟩ = some (.int .i64 y.a) ∧ w'.cell? ⟨b, off + j * 3 + 1, none⟩ = some (.int .i64 y.f) ∧ w'.cell? ⟨b, off + j * 3 + 2, none⟩ = some (.int .i64 y.t)) (first | exact hS | assumption) (first
          | (go_at_call 10; (with_reducible refine (F1.out _ ?_).mono ?_); (repeat (first | exact BD | refine below_step ?_ (by assumption))); rintro e we ⟨rfl, be⟩; have hS := HS.out we (by repeat (first | exact BD | refine below_step ?_ (by assumption))))
          | (go_at_call 11; (with_reducible refine (F2.out _ ?_).mono ?_); (repeat (first | exact BD | refine below_step ?_ (by assumption))); rintro e we ⟨rfl, be⟩; have hS := HS.out we (by repeat (first | exact BD | refine below_step ?_ (by assumption))))
          | (go_at_call 12; (with_reducible refine (F3.out _ ?_).mono ?_); (repeat (first | exact BD | refine below_step ?_ (by assumption))); rintro e we ⟨rfl, be⟩; have hS := HS.out we (by repeat (first | exact BD | refine below_step ?_ (by assumption))))
          | (go_at_call 13; (with_reducible refine (F4.out _ ?_).mono ?_); (repeat (first | exact BD | refine below_step ?_ (by assumption))); rintro e we ⟨rfl, be⟩; have hS := HS.out we (by repeat (first | exact BD | refine below_step ?_ (by assumption))))
          | (go_at_call 14; (with_reducible refine (F5.out _ ?_).mono ?_); (repeat (first | exact BD | refine below_step ?_ (by assumption))); rintro e we ⟨rfl, be⟩; have hS := HS.out we (by repeat (first | exact BD | refine below_step ?_ (by assumption))))
          | (go_at_call 15; (with_reducible refine (F6.out _ ?_).mono ?_); (repeat (first | exact BD | refine below_step ?_ (by assumption))); rintro e we ⟨rfl, be⟩; have hS := HS.out we (by repeat (first | exact BD | refine below_step ?_ (by assumption)))))
        all_goals
          go_wp2
          go_roundw
          case rel => exact ⟨j, by omega, by first | rfl | go_num, by repeat (first | exact BD | refine below_step ?_ (by assumption))⟩
          case measure => have := hkj.out; simp [intOf]; omega
      · have e3 : decide ((k : Int) + 1 < (m : Int)) = false := by simp; omega
        have i5 : IntKind.i64.wrap ((k : Int) + 1) = (k : Int) + 1 := by rw [IntKind.wrap_i64]; omega
        have F1 := Lib.hid (fun w1 (h1 : Below w.heap.size w w1) => gCheck_any up A B n c m d l w1 (HT.out.below h1) hc (HU.out.below h1) (HG.out.below h1) (by omega))
        have F2 := Lib.hid (fun w1 (h1 : Below w.heap.size w w1) => r4Check_any up A B n c m d l w1 (HU.out.below h1) (HG.out.below h1) (by omega) (by omega))
        have F3 := Lib.hid (fun w1 (h1 : Below w.heap.size w w1) => gSources_any up A B n c m d x l w1 (HT.out.below h1) hc (HU.out.below h1) (HG.out.below h1) (by omega) hx)
        have F4 := Lib.hid (fun w1 (h1 : Below w.heap.size w w1) => r4Sources_any up A B n c m d x l w1 (HU.out.below h1) (HG.out.below h1) (by omega) (by omega) hx)
        generalize checkG up l = v1 at F1 F2
        generalize srcN up l x = v2 at F3 F4
        obtain ⟨w1, hw1⟩ : ∃ w1 : World, w1 = wr := ⟨_, rfl⟩
        subst hw1
        go_wp2_with (first
          | (go_at_call 16; refine (F1.out _ BW.out).mono ?_; rintro e w2 ⟨rfl, h1⟩; have B2 := Lib.hid (below_step BW.out h1); clear h1)
          | (go_at_call 17; refine (F2.out _ B2.out).mono ?_; rintro e w3 ⟨rfl, h1⟩; have B3 := Lib.hid (below_step B2.out h1); clear h1)
          | (go_at_call 18; refine (F3.out _ B3.out).mono ?_; rintro e w4 ⟨rfl, h1⟩; have B4 := Lib.hid (below_step B3.out h1); clear h1)
          | (go_at_call 19; refine (F4.out _ B4.out).mono ?_; rintro e w5 ⟨rfl, h1⟩; have B5 := Lib.hid (below_step B4.out h1); clear h1))
        go_ret
        exact ⟨rfl, B5.out⟩
  · rw [checkB_no hc] at HC
    go_enter Try.func3, Try.ntmps3
    go_wp2_with (first
      | (go_at_call 8; refine (awake04_any _ HT.out).mono ?_; rintro e w0 ⟨rfl, h0⟩; have B0 := Lib.hid h0; clear h0)
      | (go_at_call 9; refine (HC.out _ B0.out).mono ?_; rintro e w1 ⟨rfl, h1⟩; have B1 := Lib.hid (below_step B0.out h1); clear h1))
    go_ret
    exact ⟨rfl, B1.out⟩

end Go.Proofs.Ytbgpjboefnacgaa
