/- The walk of the law CrcXors. -/
import Derived.Test.YthpmkpagjbkcjaaDoorCrca
import Derived.Deep.RegionHeld
import Derived.BigRegion
import Derived.ChangeAlike
namespace Go.Proofs.YthpmkpagjbkcjaaDoor
open Go.RowKit
set_option linter.unusedVariables false

theorem byteV_xor3 (x y z : UInt8) : byteV (x ^^^ y ^^^ z) = .int .u8 (bits .xor .u8 (bits .xor .u8 (x.toNat : Int) (y.toNat : Int)) (z.toNat : Int)) := by
  have hx := x.toNat_lt
  have hy := y.toNat_lt
  have hz := z.toNat_lt
  rw [u8_xor_nat x.toNat y.toNat (by omega) (by omega), u8_xor_nat _ z.toNat (Nat.xor_lt_two_pow (n := 8) (by omega) (by omega)) (by omega)]
  unfold byteV
  rw [UInt8.toNat_xor, UInt8.toNat_xor]

set_option maxRecDepth 100000 in
set_option maxHeartbeats 8000000 in
theorem walkXors (A A2 A3 : Option Addr) (n1 c1 n2 c2 n3 c3 : Nat) (l1 l2 l3 : List UInt8) (w : World) (htab : Tab w) (h1 : Arg w A n1 c1 l1) (h2 : Arg w A2 n2 c2 l2) (h3 : Arg w A3 n3 c3 l3) :
    Calls Tryd.prog 6 #[.slice A n1 c1, .slice A2 n2 c2, .slice A3 n3 c3] w fun e w' => e = .returned (.bool true) ∧ Below w.heap.size w w' := by
  have HTB := Lib.hid htab
  clear htab
  have H1 := Lib.hid h1
  have H2 := Lib.hid h2
  have H3 := Lib.hid h3
  clear h1 h2 h3
  obtain ⟨q, hq, hq1, hq2⟩ : ∃ q : Nat, (if n2 < n1 then (n2 : Int) else (n1 : Int)) = (q : Int) ∧ q ≤ n1 ∧ q ≤ n2 := by
    by_cases h : n2 < n1
    · exact ⟨n2, by rw [if_pos h], by omega, by omega⟩
    · exact ⟨n1, by rw [if_neg h], by omega, by omega⟩
  obtain ⟨m, hm, hm1, hm3⟩ : ∃ m : Nat, (if n3 < q then (n3 : Int) else (q : Int)) = (m : Int) ∧ m ≤ q ∧ m ≤ n3 := by
    by_cases h : n3 < q
    · exact ⟨n3, by rw [if_pos h], by omega, by omega⟩
    · exact ⟨q, by rw [if_neg h], by omega, by omega⟩
  by_cases hg : m ≤ 1000
  · have hmk := make_bytes m (by omega)
    have e1 : decide (1000 < (m : Int)) = false := by simp; omega
    go_enter Tryd.func6, Tryd.ntmps6
    go_wp2_with (go_at_call 8; refine (awake02_any _ HTB.out).mono ?_; rintro e w0 ⟨rfl, h0⟩; have B0 := Lib.hid h0; clear h0)
    have L1 : m ≤ l1.length := by have := H1.out.len; omega
    have L2 : m ≤ l2.length := by have := H2.out.len; omega
    have L3 : m ≤ l3.length := by have := H3.out.len; omega
    go_loopw [10] (fun i wr => ∃ (k : Nat) (C : Array Value), k ≤ m ∧ i = .int .i64 k ∧ C.size = m ∧ (∀ j, j < k → C[j]? = ((xor3 (l1.take m) (l2.take m) (l3.take m)).map byteV)[j]?) ∧ Has wr w0.heap.size 5 C ∧ Below w0.heap.size w0 wr) (fun i _ => m - (intOf i).toNat)
    case atStart => exact ⟨0, _, Nat.zero_le _, rfl, size_madeCells _ _, fun j h => absurd h (by omega), Has.made _ _ _, (Below.refl _ _).alloc (Nat.le_refl _) _⟩
    case round =>
      obtain ⟨k, C, hk, rfl, hC, hj, hH, hB⟩ := hrel
      have HC := Lib.hid hC
      have HJ := Lib.hid hj
      have HH := Lib.hid hH
      have HB := Lib.hid hB
      clear hC hj hH hB
      by_cases hlt : k < m
      · obtain ⟨x, hx⟩ : ∃ x, l1[k]? = some x := ⟨_, List.getElem?_eq_getElem (by omega)⟩
        obtain ⟨y, hy⟩ : ∃ y, l2[k]? = some y := ⟨_, List.getElem?_eq_getElem (by omega)⟩
        obtain ⟨z, hz⟩ : ∃ z, l3[k]? = some z := ⟨_, List.getElem?_eq_getElem (by omega)⟩
        have HX : Hid ((xor3 (l1.take m) (l2.take m) (l3.take m))[k]? = some (x ^^^ y ^^^ z)) := Lib.hid (by
          simp [xor3, List.getElem?_zipWith, hlt, hx, hy, hz])
        obtain ⟨b1, o1, hA1, hc1⟩ := (H1.out.below (B0.out.trans (HB.out.mono B0.out.size))).reads (by simp; omega)
        obtain ⟨b2, o2, hA2, hc2⟩ := (H2.out.below (B0.out.trans (HB.out.mono B0.out.size))).reads (by simp; omega)
        obtain ⟨b3, o3, hA3, hc3⟩ := (H3.out.below (B0.out.trans (HB.out.mono B0.out.size))).reads (by simp; omega)
        have d1 : wr.cell? ⟨b1, o1 + k, none⟩ = some (.int .u8 (x.toNat : Int)) := hc1 k (byteV x) (by simp [hx])
        have d2 : wr.cell? ⟨b2, o2 + k, none⟩ = some (.int .u8 (y.toNat : Int)) := hc2 k (byteV y) (by simp [hy])
        have d3 : wr.cell? ⟨b3, o3 + k, none⟩ = some (.int .u8 (z.toNat : Int)) := hc3 k (byteV z) (by simp [hz])
        obtain ⟨u, hu⟩ : ∃ u, C[k]? = some u := ⟨_, Array.getElem?_eq_getElem (by have := HC.out; omega)⟩
        have d4 : wr.cell? ⟨w0.heap.size, k, none⟩ = some u := by rw [HH.out.cell]; exact hu
        have f4 : wr.frozen? ⟨w0.heap.size, k, none⟩ = false := HH.out.free k
        have i0 : (0 : Int) ≤ (k : Int) := by omega
        have i1 : (k : Int) < (n1 : Int) := by omega
        have i2 : (k : Int) < (n2 : Int) := by omega
        have i3 : (k : Int) < (n3 : Int) := by omega
        have i4 : (k : Int) < (m : Int) := by omega
        subst hA1 hA2 hA3
        clear hc1 hc2 hc3 hx hy hz hu hq hm
        go_wp2
        go_region
        go_wp2
        go_roundw
        case rel =>
          refine ⟨k + 1, C.setIfInBounds k (byteV (x ^^^ y ^^^ z)), by omega, by go_num, by simp [HC.out], fun j hj => ?_, ?_, ?_⟩
          · by_cases he : j = k
            · subst he
              rw [Array.getElem?_setIfInBounds_self_of_lt (by have := HC.out; omega), List.getElem?_map, HX.out, Option.map_some]
            · rw [Array.getElem?_setIfInBounds_ne (by omega)]
              exact HJ.out j (by omega)
          · have h := (HH.out.drew).store k (byteV (x ^^^ y ^^^ z))
            rw [byteV_xor3] at h ⊢
            exact h
          · exact (HB.out.drew).setCell (Nat.le_refl _) _
        case measure => simp [intOf]; omega
      · obtain ⟨w1, hw1⟩ : ∃ w1 : World, w1 = wr := ⟨_, rfl⟩
        subst hw1
        go_wp2
        have hkm : k = m := by omega
        have hDl : (xor3 (l1.take m) (l2.take m) (l3.take m)).length = m := by simp [xor3]; omega
        have RX : Row w1 5 0 (some ⟨w0.heap.size, 0, none⟩) ((xor3 (l1.take m) (l2.take m) (l3.take m)).map byteV) := fun _ => ⟨w0.heap.size, 0, C, rfl, Nat.zero_le _, HH.out, fun j u hu => by
          have hjm : j < m := by
            have := (List.getElem?_eq_some_iff.1 hu).1
            simp [hDl] at this
            exact this
          rw [Nat.zero_add, HJ.out j (by omega)]
          exact hu⟩
        have BD := (B0.out.trans (HB.out.mono B0.out.size)).drew
        have RD := RX.drew
        have RDH := Lib.hid RD
        have HO0 := Lib.hid (fun w' (hb : Below w.heap.size w w') (hR : Row w' 5 0 (some ⟨w0.heap.size, 0, none⟩) ((xor3 (l1.take m) (l2.take m) (l3.take m)).map byteV)) => cOf_any (some ⟨w0.heap.size, 0, none⟩) m m (xor3 (l1.take m) (l2.take m) (l3.take m)) w' (HTB.out.below hb) hDl.symm (by rw [hDl]; omega) hR.reads)
        have HO1 := Lib.hid (fun w' (hb : Below w.heap.size w w') => cOf_any A m c1 (l1.take m) w' (HTB.out.below hb) (by simp; omega) (by simp; omega) (by rw [List.map_take]; exact (H1.out.below hb).reads.take m))
        have HO2 := Lib.hid (fun w' (hb : Below w.heap.size w w') => cOf_any A2 m c2 (l2.take m) w' (HTB.out.below hb) (by simp; omega) (by simp; omega) (by rw [List.map_take]; exact (H2.out.below hb).reads.take m))
        have HO3 := Lib.hid (fun w' (hb : Below w.heap.size w w') => cOf_any A3 m c3 (l3.take m) w' (HTB.out.below hb) (by simp; omega) (by simp; omega) (by rw [List.map_take]; exact (H3.out.below hb).reads.take m))
        have hsum : bits .xor .u32 (bits .xor .u32 (ofN (l1.take m) : Int) (ofN (l2.take m) : Int)) (ofN (l3.take m) : Int) = (ofN (xor3 (l1.take m) (l2.take m) (l3.take m)) : Int) := by
          rw [ofN_xor3 _ _ _ (by simp; omega) (by simp; omega), xor_cast _ _ (ofN_lt _) (ofN_lt _), xor_cast _ _ (Nat.xor_lt_two_pow (n := 32) (ofN_lt _) (ofN_lt _)) (ofN_lt _)]
        have i0 : (0 : Int) ≤ (m : Int) := by omega
        have i1 : (m : Int) ≤ (c1 : Int) := by have := H1.out.room; omega
        have i2 : (m : Int) ≤ (c2 : Int) := by have := H2.out.room; omega
        have i3 : (m : Int) ≤ (c3 : Int) := by have := H3.out.room; omega
        clear RX RD hDl hkm hq hm
        go_region_held (fun w' => True) (first | trivial) (first
          | (go_at_call 11; (with_reducible refine (HO1.out _ ?_).mono ?_); (repeat (first | exact BD | refine below_step ?_ (by assumption))); rintro e we ⟨rfl, be⟩)
          | (go_at_call 11; (with_reducible refine (HO2.out _ ?_).mono ?_); (repeat (first | exact BD | refine below_step ?_ (by assumption))); rintro e we ⟨rfl, be⟩)
          | (go_at_call 11; (with_reducible refine (HO3.out _ ?_).mono ?_); (repeat (first | exact BD | refine below_step ?_ (by assumption))); rintro e we ⟨rfl, be⟩)
          | (go_at_call 11; (with_reducible refine (HO0.out _ ?_ ?_).mono ?_); (repeat (first | exact BD | refine below_step ?_ (by assumption))); (exact (RDH.out).below (by repeat (first | exact Below.refl _ _ | refine below_step ?_ (by assumption)))); rintro e we ⟨rfl, be⟩))
        all_goals
          go_wp2
          go_ret
          exact ⟨rfl, by repeat (first | exact BD | refine below_step ?_ (by assumption))⟩
  · have e1 : decide (1000 < (m : Int)) = true := by simp; omega
    go_enter Tryd.func6, Tryd.ntmps6
    go_wp2_with (go_at_call 8; refine (awake02_any _ HTB.out).mono ?_; rintro e w0 ⟨rfl, h0⟩; have B0 := Lib.hid h0; clear h0)
    go_ret
    exact ⟨rfl, B0.out⟩

end Go.Proofs.YthpmkpagjbkcjaaDoor
